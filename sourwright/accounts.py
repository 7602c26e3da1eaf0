"""Where the values of open calls come from."""


class Link:
    """The last item of a chain: how it is told, the last tick of the value behind it, and the item before it, or None.

    Links are not changed, so that many chains may go on with one.
    """

    def __init__(self, told, last, before):
        self.told = told
        self.last = last
        self.before = before

    def chain(self):
        """The items of the chain up to this one, as they are told."""
        found = []
        link = self
        while link is not None:
            found.append(link.told)
            link = link.before
        return tuple(found[::-1])


class Account:
    """Where what lies in the names and on the shelves of an open call comes from.

    `links` has the last item of a chain for each filled name, `stored` the pair of one and of the tick at which it
    was put for each filled shelf. Accounts are not changed.
    """

    def __init__(self, links, stored):
        self.links = links
        self.stored = stored

    def handed_over(self, sources, targets):
        """The links of these names, by other names."""
        return {target: self.links[source] for source, target in zip(sources, targets)}

    def with_links(self, more):
        """The account with more names filled."""
        links = dict(self.links)
        links.update(more)
        return Account(links, self.stored)

    def behind(self, op, born, begin):
        """The account behind an operation that begins at this tick; `born` tells of what it makes but for its keep."""
        end = born[3]
        if op.allowance is not None:
            return self.with_links({op.fills[0]: Link(born + (op.allowance,), end + op.allowance, None)})
        if op.word == "put":
            return self.behind_put(op, begin)
        if op.word == "take":
            return self.behind_take(op, end)
        if op.word == "end":
            return self.with_links(self.handed_over(op.wants, op.fills))
        if op.word in ("mix", "scale", "copy"):
            # The first one of those that are alike.
            least = min([self.links[source] for source in op.wants], key=lambda link: link.last)
            return self.with_links({op.fills[0]: least})
        return self

    def behind_put(self, op, begin):
        """The account behind a put that begins at this tick."""
        source, shelf = op.wants[0], op.fills[0]
        links = {name: self.links[name] for name in self.links if name != source}
        return Account(links, {**self.stored, shelf: (self.links[source], begin)})

    def behind_take(self, op, end):
        """The account behind a take that ends at this tick."""
        shelf = op.wants[0]
        link, begin = self.stored[shelf]
        taken = Link(("rest", begin, end), link.last + end - begin, link)
        stored = {other: self.stored[other] for other in self.stored if other != shelf}
        return Account({**self.links, op.fills[0]: taken}, stored)
