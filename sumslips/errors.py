"""The errors of the package."""


class SlipError(ValueError):
    """Every error of the package is of a class directly under this one."""


class InvalidSheet(SlipError):
    """What was given makes no sheet."""


class InvalidColumn(SlipError):
    """What was given is no column of the sheet."""


class InvalidKind(SlipError):
    """What was given makes no kind."""


class InvalidLot(SlipError):
    """What was given is no lot."""


class NotAlike(SlipError):
    """What was given does not go together."""


class NotPossible(SlipError):
    """A deed is not possible where it was asked for."""


class TooMany(SlipError):
    """More standings can come than are looked through."""


class Waits(SlipError):
    """A figure waits, so there is no result yet."""


class InvalidText(SlipError):
    """What was given is no text of a sheet or of slips."""


class InvalidCommand(SlipError):
    """What was given does not have the form of a command."""


class NothingToUndo(SlipError):
    """There are fewer columns than are to be taken back."""


class NotReady(SlipError):
    """A kind, a lot or a ledger is needed that is not there."""


class InvalidSlips(SlipError):
    """The item with this index is the first one of a list that is no slip there."""

    def __init__(self, index):
        super().__init__(f"item {index} is not a slip that is possible here")
        self.index = index
