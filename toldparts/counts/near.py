"""How many rows come to a number, near and far."""


def counts_to(parts, number):
    """For each number from 0 to the told one, how many rows come to it."""
    counts = [1]
    for reached in range(1, number + 1):
        # A row without its last part is any row that comes to the rest.
        counts.append(sum([counts[reached - part] for part in parts if part <= reached]))
    return tuple(counts)


def count_rows(parts, number):
    """How many rows come to a number."""
    return counts_to(parts, number)[number]


def multiplied(left, right, divisor):
    """Two polynomials multiplied, as lists of factors from the power 0 on, by a divisor."""
    factors = [0] * (len(left) + len(right) - 1)
    for power, one in enumerate(left):
        for more, other in enumerate(right):
            factors[power + more] += one * other
    return [factor % divisor for factor in factors]


def odd_turned(factors):
    """A polynomial with the signs of its odd powers turned: that of -x."""
    return [-factor if power & 1 else factor for power, factor in enumerate(factors)]


def far_count(parts, number, divisor):
    """The rest by a divisor of how many rows come to a great number."""
    # The counts are the factors of the series above / below,
    # where above is 1 and below is 1 less x to the power of each part.
    above = [1]
    below = [1] + [0] * max(parts)
    for part in parts:
        below[part] = -1
    # Widened by below of -x, below keeps even powers only: the powers of above
    # that are odd or even as the number is tell it alone, and the number halves.
    while number > 0:
        turned = odd_turned(below)
        above = multiplied(above, turned, divisor)[number & 1::2]
        below = multiplied(below, turned, divisor)[::2]
        number >>= 1
    # The factor of x to the power 0 in below stays 1 all along.
    return above[0] % divisor
