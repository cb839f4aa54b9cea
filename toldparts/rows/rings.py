"""Rows laid in rings."""

from toldparts.counts.near import counts_to
from toldparts.divisors import common_divisor
from toldparts.errors import NoRow
from toldparts.rows.checks import check_row


def turns_of(parts, row):
    """The row begun at each of its places, or NoRow."""
    check_row(parts, row)
    if len(row) == 0:
        raise NoRow(0)
    return [row[at:] + row[:at] for at in range(len(row))]


def least_turn(parts, row):
    """The least, as tuples, of the rows that are this one begun elsewhere, or NoRow."""
    return min(turns_of(parts, row))


def how_many_turns(parts, row):
    """How many unlike rows are this one begun anywhere, or NoRow."""
    return len(set(turns_of(parts, row)))


def count_rings(parts, number):
    """How many rings come to a number."""
    if number < 1:
        return 0
    counts = counts_to(parts, number)
    # Lay each part as an arc of as many steps around a circle of so many steps. Step 0 is any
    # one of the steps of its arc, and the other arcs are any row that comes to the rest.
    laid = [sum([part * counts[steps - part] for part in parts if part <= steps]) for steps in range(number + 1)]
    # There are as many rings as a turn of the circle leaves layings alike on average (Burnside),
    # and a turn leaves those alike that repeat after the steps it has in common with the circle.
    return sum([laid[common_divisor(number, turn)] for turn in range(number)]) // number


def rings_begun(parts, rest, row, period):
    """The least rows of rings that begin with a row and come to the rest behind it, in order."""
    if rest == 0:
        # It ends as it began only at the end of a period; else it is greater than one of its turns.
        return [row] if len(row) % period == 0 else []
    rings = []
    # A part less than the one a period ahead would make a turn less than the row.
    ahead = row[len(row) - period]
    for part in parts:
        if ahead <= part <= rest:
            rings += rings_begun(parts, rest - part, row + (part,), period if part == ahead else len(row) + 1)
    return rings


def all_rings(parts, number):
    """All rings that come to a number, each by its least row, in order."""
    rings = []
    for part in parts:
        if part <= number:
            rings += rings_begun(parts, number - part, (part,), 1)
    return rings
