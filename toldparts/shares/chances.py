"""Parts drawn by shares: chances, and the likeliest row."""

from toldparts.divisors import common_divisor, least_fraction
from toldparts.errors import NoShares
from toldparts.rows.begun import row_by_beginnings


def is_share(above, below):
    """Whether a pair is a fraction above 0."""
    return above >= 1 and below >= 1 and common_divisor(above, below) == 1


def common_below(shares):
    """The least number that each below divides."""
    whole = 1
    for above, below in shares:
        whole *= below // common_divisor(whole, below)
    return whole


def weights_of(parts, shares):
    """The aboves of all shares over their common below, and that below, or NoShares."""
    if len(shares) != len(parts):
        raise NoShares("not one share for each part")
    if not all(is_share(above, below) for above, below in shares):
        raise NoShares("a share is no fraction above 0")
    whole = common_below(shares)
    weights = [above * (whole // below) for above, below in shares]
    if sum(weights) != whole:
        raise NoShares("the shares are not 1 together")
    return weights, whole


def certain_weight(parts, number, whole):
    """What stands for the chance 1, so that the chance of each row to a number is a whole number, too."""
    certain = 1
    # Each part of a row divides by the common below once, and no row has more parts than this.
    for step in range(number // parts[0]):
        certain *= whole
    return certain


def chance_of(parts, shares, number):
    """The chance that parts drawn by shares come to a number at some time, or NoShares."""
    weights, whole = weights_of(parts, shares)
    certain = certain_weight(parts, number, whole)
    chances = [certain]
    for reached in range(1, number + 1):
        # Some part is drawn last, and what was drawn ahead of it came to the rest.
        drawn = [weight * chances[reached - part] for part, weight in zip(parts, weights) if part <= reached]
        chances.append(sum(drawn) // whole)
    return least_fraction(chances[number], certain)


def likeliest_row(parts, shares, number):
    """The greatest product of shares of a row to a number, and the first such row; None, or NoShares."""
    weights, whole = weights_of(parts, shares)
    certain = certain_weight(parts, number, whole)
    bests = {0: (certain, 0)}
    for reached in range(1, number + 1):
        choices = [
            (weight * bests[reached - part][0] // whole, part)
            for part, weight in zip(parts, weights) if reached - part in bests
        ]
        if choices:
            # Of several max takes the first, and parts rise: so the row is the first one, too.
            bests[reached] = max(choices, key=lambda choice: choice[0])
    if number not in bests:
        return None
    return least_fraction(bests[number][0], certain), row_by_beginnings(bests, number)
