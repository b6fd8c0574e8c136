"""The refusals: each is an error of a class of its own under SeatError."""


class SeatError(ValueError):
    """Any refusal."""


class NoStanding(SeatError):
    """The lists make no standing."""


class NoChange(SeatError):
    """An edit that can't be done; `at` is its place among several edits, else None."""

    def __init__(self, at=None):
        super().__init__("no such change")
        self.at = at


class NoLead(SeatError):
    """The house that was asked doesn't lead."""


class NoHouse(SeatError):
    """The number is none of a house."""


class NoLetter(SeatError):
    """The number is none of a letter under way."""


class NoForm(SeatError):
    """The row has no form that a desk knows."""
