"""Numbers that no row comes to, and rows of the fewest parts."""

from toldparts.counts.near import counts_to
from toldparts.divisors import common_divisor
from toldparts.rows.begun import row_by_beginnings


def divisor_of(parts):
    """The greatest common divisor of the parts."""
    divisor = 0
    for part in parts:
        divisor = common_divisor(divisor, part)
    return divisor


def none_to(parts, number):
    """The numbers from 1 to the told one that no row comes to, rising."""
    counts = counts_to(parts, number)
    return tuple([reached for reached in range(1, number + 1) if counts[reached] == 0])


def greatest_none(parts):
    """The greatest number that no row comes to, -1 where each has a row, None where there is no greatest one."""
    # Rows come to multiples of the divisor alone.
    if divisor_of(parts) > 1:
        return None
    comes = [True]
    greatest = -1
    # Behind as many numbers with rows as the least part is, each number has one by adding that part.
    while len(comes) <= greatest + parts[0]:
        number = len(comes)
        comes.append(any([comes[number - part] for part in parts if part <= number]))
        if not comes[number]:
            greatest = number
    return greatest


def fewest(parts, number):
    """The fewest parts of a row to a number and the first row of so few, or None."""
    bests = {0: (0, 0)}
    for reached in range(1, number + 1):
        choices = [(bests[reached - part][0] + 1, part) for part in parts if reached - part in bests]
        if choices:
            # Of as few parts the least beginning, so the row is the first one.
            bests[reached] = min(choices)
    if number not in bests:
        return None
    return bests[number][0], row_by_beginnings(bests, number)
