"""The errors of the package; each keeps what it is made of in attributes of the same names."""


class SourError(ValueError):
    """The base of all errors of the package but UnknownName."""


class InvalidProgram(SourError):
    """Kinds, wells, dishes or a procedure break a rule of programs."""

    def __init__(self, word, procedure, place):
        self.word = word
        self.procedure = procedure
        self.place = place


class InvalidText(SourError):
    """A line of a text is of no form, or does not belong where it stands."""

    def __init__(self, line):
        self.line = line


class InvalidStart(SourError):
    """Lives, worths or procedures do not make a start."""

    def __init__(self, word, index):
        self.word = word
        self.index = index


class TooLong(SourError):
    """A procedure has more steps than can be dealt with."""

    def __init__(self, steps):
        self.steps = steps


class InvalidCode(SourError):
    """A code procedure breaks a rule of code."""

    def __init__(self, word, procedure, row):
        self.word = word
        self.procedure = procedure
        self.row = row


class NoRoom(SourError):
    """A procedure needs more cups or cold places than there are."""

    def __init__(self, procedure, number):
        self.procedure = procedure
        self.number = number


class InvalidPart(SourError):
    """A part, or what links parts, breaks a rule."""

    def __init__(self, word, index):
        self.word = word
        self.index = index


class LinkRefused(SourError):
    """A procedure may not stand for what a part uses."""

    def __init__(self, part, used, caller):
        self.part = part
        self.used = used
        self.caller = caller


class InvalidCommand(SourError):
    """A command of the desk is of no form."""


class Unfilled(SourError):
    """A step finds a name or a shelf in the wrong state on some way."""

    def __init__(self, procedure, place, carrier, answers):
        self.procedure = procedure
        self.place = place
        self.carrier = carrier
        self.answers = answers


class UnknownName(KeyError):
    """Nothing has this name."""

    def __init__(self, name):
        self.name = name
