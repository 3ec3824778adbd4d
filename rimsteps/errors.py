"""The refusals of the program."""


class RimError(ValueError):
    """Any refusal."""


class NoPicture(RimError):
    """A list of cells that is no picture: the cell of index at doesn't stand behind the one ahead of it."""

    def __init__(self, at):
        self.at = at


class NoRound(RimError):
    """A round that no picture has: at is the step at which its walk gainsays itself."""

    def __init__(self, at):
        self.at = at


class NoRounds(RimError):
    """A list of rounds that comes from no picture: at is the index at which it differs from a picture's."""

    def __init__(self, at):
        self.at = at


class NoText(RimError):
    """A text that can't be read: the word of this number in the row of this number isn't as it should be."""

    def __init__(self, row, word):
        self.row = row
        self.word = word


class Twice(RimError):
    """A cell is put that is there already."""


class NoCell(RimError):
    """A cell is taken that isn't there."""


class TooWide(RimError):
    """What would be told is too great."""


class NoRow(RimError):
    """A row that the desk doesn't know."""
