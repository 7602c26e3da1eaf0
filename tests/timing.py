"""Times that are told in terms of how fast the machine is, so that slow machines do not make tests fail."""

import time


def reference():
    """Some work that takes a fast machine about a millisecond: tuples, dicts, attributes and calls."""
    class Box:
        def __init__(self):
            self.now = (0, {})

        def go_on(self, key):
            count, held = self.now
            after = dict(held)
            after[key] = (count, key)
            self.now = (count + 1, after)
            return ("did", count, key)

    box = Box()
    past = []
    for at in range(3000):
        past.append(box.now)
        told = box.go_on(at % 7)
        if told[0] != "did":
            break
    return len(past)


def seconds(call):
    begun = time.perf_counter()
    call()
    return time.perf_counter() - begun


def ratio(call, times=25):
    """How often as long as the reference a call takes; both are done by turns, and the best time of each counts."""
    best_call = best_reference = float("inf")
    for _ in range(times):
        best_reference = min(best_reference, seconds(reference))
        best_call = min(best_call, seconds(call))
    return best_call / best_reference


def ratio_of_all(calls, times=25):
    """As `ratio`, for calls that are done one after another; of each of them the best time counts."""
    best_calls = [float("inf")] * len(calls)
    best_reference = float("inf")
    for _ in range(times):
        best_reference = min(best_reference, seconds(reference))
        best_calls = [min(best, seconds(call)) for best, call in zip(best_calls, calls)]
    return sum(best_calls) / best_reference
