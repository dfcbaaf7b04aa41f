"""The errors of the package."""


class HeldError(ValueError):
    """The base class of all errors of the package."""


class OutOfRange(HeldError):
    """A number, or the length of a list, is outside of its bounds."""

    def __init__(self, what, value):
        self.what = what
        self.value = value


class Unread(HeldError):
    """A line of a text does not fit the form."""

    def __init__(self, line):
        self.line = line


class Unfit(HeldError):
    """An assignment, a step or a lot does not fit."""

    def __init__(self, fault):
        self.fault = tuple(fault)


class NotAccepted(HeldError):
    """The judge found a fault."""

    def __init__(self, fault):
        self.fault = tuple(fault)


class BadStart(HeldError):
    """A start has a fault."""

    def __init__(self, fault):
        self.fault = tuple(fault)


class BadSlips(HeldError):
    """Slips have a fault."""

    def __init__(self, fault):
        self.fault = tuple(fault)


class TooHeavy(HeldError):
    """A question asks for more work than is done."""

    def __init__(self, work):
        self.work = work


class NotBest(HeldError):
    """An assignment is not best; the value is the best one."""

    def __init__(self, value):
        self.value = value


class NotOneChange(HeldError):
    """Two tables differ by more than one change."""


class BadWord(HeldError):
    """A word is none of those that may stand there."""

    def __init__(self, word):
        self.word = word


class Busy(HeldError):
    """A disk has something pending for the target slot."""

    def __init__(self, target):
        self.target = target


class NoLetter(HeldError):
    """The net has no letter of this number."""

    def __init__(self, at):
        self.at = at


class Down(HeldError):
    """A house is down that must be up."""

    def __init__(self, kind, number):
        self.kind = kind
        self.number = number


class Up(HeldError):
    """A house is up that must be down."""

    def __init__(self, kind, number):
        self.kind = kind
        self.number = number


class NotSynced(HeldError):
    """The disk of a house has something pending."""

    def __init__(self, kind, number):
        self.kind = kind
        self.number = number


class BadEvent(HeldError):
    """An event of a trace is refused."""

    def __init__(self, at):
        self.at = at


class NotAtRest(HeldError):
    """The world is not at rest."""


class NothingToUndo(HeldError):
    """There is no step to take back."""


class NothingToRedo(HeldError):
    """There is no step that was taken back."""


class Warm(HeldError):
    """The era is not cold."""

    def __init__(self, era):
        self.era = era
