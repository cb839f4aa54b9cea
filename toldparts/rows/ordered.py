"""Rows that come to a number, ordered as tuples."""

from toldparts.counts.near import counts_to
from toldparts.errors import NoPlace
from toldparts.rows.checks import check_row


def row_at(parts, counts, number, place):
    """The row at a place that there is, by the counts of all numbers to the told one."""
    row = []
    while number > 0:
        # Parts rise and the place is there, so it is found ahead of parts above the number.
        for part in parts:
            # So many rows begin with this part, and all of them stand together.
            behind = counts[number - part]
            if place < behind:
                row.append(part)
                number -= part
                break
            place -= behind
    return tuple(row)


def nth_row(parts, number, place):
    """The row at a place, from 0 on, among those that come to a number, or NoPlace."""
    counts = counts_to(parts, number)
    if place < 0 or place >= counts[number]:
        raise NoPlace("no row stands at this place")
    return row_at(parts, counts, number, place)


def place_of(parts, row):
    """The place of a row, from 0 on, among those that come to the same number, or NoRow."""
    check_row(parts, row)
    rest = sum(row)
    counts = counts_to(parts, rest)
    place = 0
    for one in row:
        place += sum([counts[rest - part] for part in parts if part < one])
        rest -= one
    return place


def next_row(parts, row):
    """The row next behind one among those that come to the same number, None behind the last one, or NoRow."""
    check_row(parts, row)
    counts = counts_to(parts, sum(row))
    rest = 0
    # The next row keeps as much of this one's beginning as it can.
    for at in range(len(row) - 1, -1, -1):
        rest += row[at]
        for part in parts:
            if row[at] < part <= rest and counts[rest - part] > 0:
                return row[:at] + (part,) + row_at(parts, counts, rest - part, 0)
    return None
