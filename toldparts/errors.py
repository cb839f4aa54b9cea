"""The refusals of the package."""


class PartError(ValueError):
    """Any refusal."""


class NoParts(PartError):
    """Parts that are none; `place` is the word that is refused, from 0 on."""

    def __init__(self, place):
        super().__init__(f"no parts, at place {place}")
        self.place = place


class NoRow(PartError):
    """A row that is none of the parts; `place` is what is refused, from 0 on."""

    def __init__(self, place):
        super().__init__(f"no row, at place {place}")
        self.place = place


class NoShares(PartError):
    """Shares that are none."""


class NoPlace(PartError):
    """A place at which no row stands."""


class NoAsk(PartError):
    """A line that asks nothing of a desk."""
