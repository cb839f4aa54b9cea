"""Slow and plain ways to what the program tells, to hold it against."""

import inspect
import unittest
from itertools import combinations

from toldparts.errors import NoRow

# Parts as great and as many as there are, and few.
MANY_PARTS = (
    tuple(range(1, 13)),
    tuple(range(29, 41)),
    (1, 2, 3, 5, 8, 13, 21, 34, 37, 38, 39, 40),
    (2, 4, 6, 8, 10, 12, 20, 24, 30, 34, 38, 40),
    (3, 6, 9, 40),
    (7, 11),
    (1, 40),
    (40,),
    (1,),
)


# Parts, a row that is none of them, and the first place that is no part.
WRONG_ROWS = (
    ((1, 2), (0,), 0),
    ((1, 2), (-1,), 0),
    ((1, 2), (3,), 0),
    ((1, 2), (10 ** 100,), 0),
    ((2, 5), (1, 2, 5), 0),
    ((2, 5), (2, 0, 5), 1),
    ((2, 5), (2, -2, 5), 1),
    ((2, 5), (2, -10 ** 100, 5), 1),
    ((2, 5), (2, 10 ** 100, 5), 1),
    ((2, 5), (2, 5, 0), 2),
    ((2, 5), (2, 5, -5), 2),
    ((2, 5), (2, 5, 3), 2),
    ((2, 5), (2, 5, 7), 2),
    ((2, 5), (2, 3, 5, 4, 0), 1),
    ((40,), (40,) * 299 + (39,), 299),
    ((40,), (40,) * 299 + (41,), 299),
    ((1, 40), (40,) * 150 + (0,) + (40,) * 149, 150),
    ((1, 40), (2,) + (40,) * 299, 0),
)


class Held(unittest.TestCase):
    """What the tests of several modules ask for."""

    def arguments_are(self, module, wanted):
        for name, arguments in wanted.items():
            told = inspect.signature(getattr(module, name)).parameters
            self.assertEqual(list(told), arguments.split(), name)

    def is_plain(self, told):
        """Tuples of tuples and whole numbers alone, which are no truths."""
        if type(told) is tuple:
            for thing in told:
                self.is_plain(thing)
        else:
            self.assertIs(type(told), int)

    def row_refused(self, asked, parts, row, place):
        with self.assertRaises(NoRow) as held:
            asked(parts, row)
        self.assertIs(type(held.exception), NoRow)
        self.assertEqual(held.exception.place, place, (parts, row))
        self.assertIs(type(held.exception.place), int)


def all_rows(parts, number):
    """All rows that come to a number, gone through one by one."""
    if number == 0:
        return [()]
    rows = []
    for part in parts:
        if part <= number:
            rows += [(part,) + rest for rest in all_rows(parts, number - part)]
    return rows


def pair(fraction):
    """A Fraction as the program tells it."""
    return fraction.numerator, fraction.denominator


def all_parts(greatest):
    """All parts of numbers from 1 to the greatest."""
    numbers = range(1, greatest + 1)
    return [parts for many in numbers for parts in combinations(numbers, many)]


def turns(row):
    """A row begun at each of its places."""
    return [row[at:] + row[:at] for at in range(len(row))]


def powers_of_parts(parts, number):
    """For each number of parts from 0 on, a dict of how many rows come to each number to the told one."""
    powers = []
    having = {0: 1}
    while having:
        powers.append(having)
        longer = {}
        for reached, count in having.items():
            for part in parts:
                if reached + part <= number:
                    longer[reached + part] = longer.get(reached + part, 0) + count
        having = longer
    return powers


def counts_by_many_parts(parts, number):
    """How many rows come to each number to the told one, added up by how many parts they have."""
    powers = powers_of_parts(parts, number)
    return tuple(sum(having.get(reached, 0) for having in powers) for reached in range(number + 1))


def rests_one_by_one(parts, number, divisor):
    """The rest of the count of a number, through all numbers below."""
    rests = [1 % divisor]
    for reached in range(1, number + 1):
        rests.append(sum(rests[reached - part] for part in parts if part <= reached) % divisor)
    return rests[number]


def times(left, right, divisor):
    columns = list(zip(*right))
    return [[sum(a * b for a, b in zip(row, column)) % divisor for column in columns] for row in left]


def rest_by_matrix(parts, number, divisor):
    """The rest of the count of a great number, by powers of the matrix that steps to the next count."""
    size = max(parts)
    step = [[1 if at + 1 in parts else 0 for at in range(size)]]
    step += [[1 if at == row else 0 for at in range(size)] for row in range(size - 1)]
    state = [[1]] + [[0]] * (size - 1)
    while number:
        if number % 2:
            state = times(step, state, divisor)
        step = times(step, step, divisor)
        number //= 2
    return state[0][0] % divisor
