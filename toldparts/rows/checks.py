"""Rows held against the parts they are to be of."""

from toldparts.errors import NoRow


def check_row(parts, row):
    """Refuses a row at the first place that holds no part."""
    for place, one in enumerate(row):
        if one not in parts:
            raise NoRow(place)
