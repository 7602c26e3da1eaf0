"""A desk, which answers commands about a program."""

from sourwright.compiling import fewest_cups
from sourwright.errors import InvalidCommand
from sourwright.flow import check_sound
from sourwright.forms import is_word
from sourwright.judging import is_fresh, judge
from sourwright.lives import exact_type
from sourwright.programs import Program
from sourwright.reading import number_of
from sourwright.standing import stand_in
from sourwright.texts import show_program
from sourwright.uses import NEVER, type_words
from sourwright.world import run

LINE_END = " ; "
NO_ANSWERS = "-"
# What the words behind the first word of a command are, but for the lives that may follow in some.
FORMS = {
    "show": (), "life": ("name",), "fresh": ("name",), "run": ("name", "answers"), "judge": ("name",),
    "stand": ("name", "name"), "cups": ("name",),
}
WITH_LIVES = ("fresh", "run", "judge")


class Desk:
    """Keeps a sound program, or none at first, and answers commands about it."""

    def __init__(self):
        self._program = None

    def say(self, command):
        """The answer to a command."""
        words = command.split(" ")
        if "" in words or "\n" in command or not is_command(words):
            raise InvalidCommand()
        if words[0] == "program":
            return self._keep_program(" ".join(words[1:]).replace(LINE_END, "\n"))
        if self._program is None:
            raise InvalidCommand()
        answer = ANSWERS[words[0]]
        return answer(self._program, words[1:])

    def _keep_program(self, text):
        """Keeps the program with this text, if it is sound."""
        program = Program.read(text)
        check_sound(program)
        self._program = program
        return f"{len(program)} procedures"


def is_command(words):
    """Whether these are the words of a command."""
    if words[0] == "program":
        return len(words) > 1
    if words[0] not in FORMS:
        return False
    form = FORMS[words[0]]
    given, lives = words[1:len(form) + 1], words[len(form) + 1:]
    if len(given) < len(form) or lives and words[0] not in WITH_LIVES:
        return False
    if None in [number_of(word) for word in lives]:
        return False
    return all([is_word(word) if part == "name" else are_answers(word) for word, part in zip(given, form)])


def are_answers(word):
    """Whether a word stands for answers."""
    return word == NO_ANSWERS or all([letter in ("y", "n") for letter in word])


def lives_of(words):
    """The lives that words write."""
    return tuple([number_of(word) for word in words])


def say_show(program, _):
    """The answer to `show`; so it is for each command."""
    return show_program(program).replace("\n", LINE_END)


def say_life(program, words):
    plain = exact_type(program, words[0]).plain()
    return NEVER if plain.is_never else " ".join(type_words(plain))


def say_fresh(program, words):
    return yes_or_no(is_fresh(program, words[0], lives_of(words[1:])))


def say_run(program, words):
    name, letters = words[:2]
    answers = tuple([letter == "y" for letter in letters if letter != NO_ANSWERS])
    event, outcome = run(program, name, lives_of(words[2:]), answers)
    told = [event[0], str(event[1])]
    if event[0] == "sour":
        told.append(event[4])
    if event[0] == "done":
        told.extend([f"{worth}:{life}" for worth, life in outcome])
    return " ".join(told)


def say_judge(program, words):
    verdict = judge(program, words[0], lives_of(words[1:]))
    return "fresh" if verdict[0] == "fresh" else f"sour {verdict[2]}"


def say_stand(program, words):
    return yes_or_no(stand_in(program, words[0], words[1]) is None)


def say_cups(program, words):
    return str(fewest_cups(program, words[0]))


def yes_or_no(is_so):
    """The word for an answer."""
    return "yes" if is_so else "no"


ANSWERS = {
    "show": say_show, "life": say_life, "fresh": say_fresh, "run": say_run, "judge": say_judge, "stand": say_stand,
    "cups": say_cups,
}
