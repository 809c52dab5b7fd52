"""The errors of the program."""


class OrderError(ValueError):
    """What all errors of the program derive from."""

    def __init__(self, value):
        ValueError.__init__(self, value)
        self.value = value


class BadHouse(OrderError):
    """A text is no house; the value is the number of the wrong line."""


class NoRule(OrderError):
    """A value is not the name of a rule of the house."""


class NoPass(OrderError):
    """A value is not the number of a pass with ranks."""


class NotFull(OrderError):
    """A house has a line with known where a full one is needed."""


class BadName(OrderError):
    """A value is no name of the house."""


class BadRows(OrderError):
    """A value is no file."""


class BadSeen(OrderError):
    """A value is no tuple of listings."""


class Unfit(OrderError):
    """No world fits what was seen."""


class BadTool(OrderError):
    """A value is no tool."""


class BadLoad(OrderError):
    """A value is no load of the tool."""


class BadPromise(OrderError):
    """A value is no promise."""


class BadPromises(OrderError):
    """A value is no tuple of a promise for each file."""


class BadSigns(OrderError):
    """A value is no tuple of signs."""


class BadForms(OrderError):
    """A value is no tuple of forms of names."""


class OtherSigns(OrderError):
    """A value is no set of names over the same signs."""


class TooMany(OrderError):
    """A set of names needs a machine with too many states."""


class BadLength(OrderError):
    """A value is no length of names."""


class BadWork(OrderError):
    """A text is no work; the value is the number of the wrong line."""


class NoFile(OrderError):
    """A value is not the name of a file of the work."""


class BadChanges(OrderError):
    """A value is no tuple of changes that can be made."""


class BadOffers(OrderError):
    """A value is no tuple of offers."""


class BadLine(OrderError):
    """A value is no line that can stand there."""


class NoLine(OrderError):
    """A value is not the number of a line."""


class Needed(OrderError):
    """A line cannot go, for others need it."""


class NothingToUndo(OrderError):
    """No deed stands that could be taken back."""


class NothingToRedo(OrderError):
    """No deed was taken back that could be done again."""


class NoTrial(OrderError):
    """There is no trial to keep."""


class BadJournal(OrderError):
    """A value is no journal; the value is the number of the wrong line."""


class BadSay(OrderError):
    """A value is nothing that can be said to a desk."""
