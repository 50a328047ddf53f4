"""The refusals, by their families, each with what it was refused with."""


class SoError(ValueError):
    """The family of the refusals that stand straight under it."""


class NoText(SoError):
    """A text writes no worth or no program."""

    def __init__(self, line):
        self.line = line


class NoProgram(SoError):
    """What should be a program is none."""


class NoName(SoError):
    """What should be a name is none."""


class NoWorth(SoError):
    """What should be a plain worth is none."""


class NoEdit(SoError):
    """Of several edits one can't be made."""

    def __init__(self, k):
        self.k = k


class NotYet(SoError):
    """So many sayings can't be spoken now."""

    def __init__(self, many):
        self.many = many


class Busy(SoError):
    """A run that speaks lets nothing else be done to it."""


class Said(SoError):
    """What was spoken would be otherwise behind a change."""

    def __init__(self, k, one, other):
        self.k = k
        self.one = one
        self.other = other


class TooLong(SoError):
    """A run would make more steps than it may."""

    def __init__(self, most):
        self.most = most


class TooDeep(SoError):
    """More calls and wakings would stand upon one another than may."""

    def __init__(self, deep):
        self.deep = deep


class NoCell(KeyError):
    """A module has no field of this name."""

    def __init__(self, name):
        self.name = name


class NoModule(KeyError):
    """A program has no module of this name."""

    def __init__(self, module):
        self.module = module


class NoThing(IndexError):
    """No thing of this number was made."""

    def __init__(self, k):
        self.k = k


class NoStep(IndexError):
    """A run has no step of this number."""

    def __init__(self, step):
        self.step = step
