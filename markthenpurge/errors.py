"""The errors of the package, all of them directly under PurgeError."""


def copy_paper(paper):
    """A copy down to the innermost list, so that nobody else can change what an error holds."""
    if isinstance(paper, list):
        return [copy_paper(part) for part in paper]
    if isinstance(paper, tuple):
        return tuple([copy_paper(part) for part in paper])
    return paper


class PurgeError(ValueError):
    """The base of all errors of the package."""


class InvalidLog(PurgeError):
    """A value that is not a log, or not a record."""


class InvalidPosition(PurgeError):
    """A value that is not a position, or not a list or tuple of positions."""


class InvalidRange(PurgeError):
    """A value that is not a range of the log, or not a list of such ranges."""


class InvalidRules(PurgeError):
    """A longest or walls that are no rules of the log."""


class InvalidRead(PurgeError):
    """A value that is not a read, or not a list of reads."""


class InvalidPrice(PurgeError):
    """Prices, sizes or a fee that are not integers from 0 on."""


class InvalidNumber(PurgeError):
    """A number outside of what is asked for."""


class InvalidResult(PurgeError):
    """A value that is not a result of the facts, or not a filling that agrees."""


class InvalidReport(PurgeError):
    """A value that is not a list of reports of the log."""


class InvalidBound(PurgeError):
    """A value that is not a list or tuple of bounds."""


class NothingToUndo(PurgeError):
    """There are fewer deeds than are to be taken back."""


class InvalidText(PurgeError):
    """A value that is not a text of the asked kind."""


class InvalidCommand(PurgeError):
    """A value that does not have the form of a command."""


class NoResult(PurgeError):
    """There is no result; the paper shows why."""

    def __init__(self, paper):
        self.paper = copy_paper(paper)


class NoPlan(PurgeError):
    """There is no steady plan; the paper shows why."""

    def __init__(self, paper):
        self.paper = copy_paper(paper)
