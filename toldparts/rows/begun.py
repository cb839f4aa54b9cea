"""Rows put together by what they begin with."""


def row_by_beginnings(bests, number):
    """The row to a number, by pairs for each number on its way: what it is worth, and the part to begin with."""
    row = []
    while number > 0:
        part = bests[number][1]
        row.append(part)
        number -= part
    return tuple(row)
