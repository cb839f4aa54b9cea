"""Common divisors, and fractions without any."""


def common_divisor(one, other):
    """The greatest common divisor of two whole numbers from 0 on."""
    while other:
        one, other = other, one % other
    return one


def least_fraction(above, below):
    """The fraction of a number from 0 on and one from 1 on, in least numbers."""
    divisor = common_divisor(above, below)
    return above // divisor, below // divisor
