"""Averages of all rows that come to a number."""

from toldparts.counts.bounds import counts_by_many
from toldparts.counts.near import counts_to
from toldparts.divisors import least_fraction


def how_often(counts, rest):
    """How often a part comes in all rows together, by what they come to without it."""
    # Each time, any row stands ahead of it and any that comes to what is left behind it.
    return sum([counts[ahead] * counts[rest - ahead] for ahead in range(rest + 1)])


def averages(parts, number):
    """The averages of how many parts the rows have and of how often each part comes, or None."""
    counts = counts_to(parts, number)
    rows = counts[number]
    if rows == 0:
        return None
    often = [how_often(counts, number - part) for part in parts]
    return least_fraction(sum(often), rows), tuple([least_fraction(times, rows) for times in often])


def likeliest_many(parts, number):
    """The number of parts that most rows have, the least one of several, or None."""
    tally = counts_by_many(parts, number)
    if len(tally) == 0:
        return None
    return tally.index(max(tally))
