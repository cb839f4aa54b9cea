"""Parts that are put in and taken out."""

from toldparts.counts.near import count_rows
from toldparts.counts.none import none_to
from toldparts.errors import NoParts


class KeptParts:
    """Parts that come and go, none at first."""

    def __init__(self):
        # A tuple, so that what was told of them stays as it is when they change.
        self.parts = ()

    def put_part(self, part):
        """Puts a part in, or NoParts."""
        if part < 1 or part in self.parts:
            raise NoParts(0)
        self.parts = tuple(sorted([*self.parts, part]))

    def take_part(self, part):
        """Takes a part out, or NoParts."""
        if part not in self.parts:
            raise NoParts(0)
        self.parts = tuple([other for other in self.parts if other != part])

    def parts_now(self):
        """The parts, rising, perhaps none."""
        return self.parts

    def count_now(self, number):
        """How many rows come to a number."""
        return count_rows(self.parts, number)

    def none_now(self, number):
        """The numbers from 1 to the told one that no row comes to, rising."""
        return none_to(self.parts, number)
