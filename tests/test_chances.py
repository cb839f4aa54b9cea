import unittest
from fractions import Fraction
from itertools import product
from math import gcd, log, prod

from tests.helper import MANY_PARTS, Held, all_parts, all_rows, pair
from toldparts.errors import NoShares
from toldparts.shares import chances
from toldparts.shares.chances import chance_of, likeliest_row

SMALL = all_parts(4) + [(2, 9), (3, 10), (6, 10, 11), (1, 40), (5,)]
BOTH = (chance_of, likeliest_row)


def shares_by(weights):
    """Shares that stand to each other as whole numbers do."""
    return tuple(pair(Fraction(weight, sum(weights))) for weight in weights)


def shares_of_six_figures(many):
    """Twelve shares over six unlike great primes, or fewer over one great prime."""
    if many < 12:
        return shares_by([999983 - many + 1] + [1] * (many - 1)) if many > 1 else ((1, 1),)
    shares = []
    for at, prime in enumerate((142841, 142837, 142811, 142799, 142789, 142787)):
        # The pair comes to 1/7 (once to 2/7), so the primes cancel out of all together.
        together = 2 * prime if at == 0 else prime
        first = next(
            above for above in range(together // 3, together)
            if gcd(above, 7 * prime) == gcd(together - above, 7 * prime) == 1
        )
        shares += [(first, 7 * prime), (together - first, 7 * prime)]
    return tuple(shares)


def some_shares(parts):
    """Shares alike, unlike in several ways, and of six figures."""
    many = len(parts)
    return [
        shares_by([1] * many),
        shares_by(range(1, many + 1)),
        shares_by(range(many, 0, -1)),
        shares_by([2 ** at for at in range(many)]),
        shares_by([2 ** (40 - part) for part in parts]),
        shares_by([1 + at * at % 5 for at in range(many)]),
        shares_of_six_figures(many),
    ]


def weight_of(parts, shares, row):
    share_of = dict(zip(parts, shares))
    return prod((Fraction(*share_of[part]) for part in row), start=Fraction(1))


def chance_modulo(parts, shares, number, prime):
    """The chance of a number in the field of a prime, step by step."""
    factors = [above * pow(below, -1, prime) for above, below in shares]
    found = [1]
    for reached in range(1, number + 1):
        drawn = [factor * found[reached - part] for part, factor in zip(parts, factors) if part <= reached]
        found.append(sum(drawn) % prime)
    return found[number]


def greatest_logarithm(parts, shares, number):
    """The logarithm of the likeliest row's product, about."""
    logs = [log(above / below) for above, below in shares]
    found = [0.0]
    for reached in range(1, number + 1):
        drawn = [found[reached - part] + more for part, more in zip(parts, logs) if part <= reached]
        found.append(max(drawn, default=float("-inf")))
    return found[number]


def spoilt(shares):
    """Tuples of pairs that are no shares, each from shares that are some."""
    yield ()
    yield shares + ((1, 1),)
    yield shares + ((0, 1),)
    yield shares + ((1, 999999),)
    yield ((0, 1),) + shares
    for at, (above, below) in enumerate(shares):
        if len(shares) > 1:
            yield shares[:at] + shares[at + 1:]
        for wrong in (
            (0, 1), (0, below), (0, 0), (-above, below), (above, -below), (-above, -below), (above, 0), (-1, 1),
            (1, 0), (1, -1), (-1, -1), (2 * above, 2 * below), (7 * above, 7 * below), (above + below, below),
            pair(Fraction(above, below) + Fraction(1, 999999)), pair(Fraction(above, below) / 2),
            pair(Fraction(above, below) - Fraction(1, 10 ** 12)), (below, 1), (10 ** 100, 10 ** 100),
            (10 ** 100 + 1, 10 ** 100), (1, 10 ** 100), (-10 ** 100, 1),
        ):
            if wrong != (above, below):
                yield shares[:at] + (wrong,) + shares[at + 1:]


class Interface(Held):
    def test_names_and_arguments(self):
        wanted = "parts shares number"
        self.arguments_are(chances, {"chance_of": wanted, "likeliest_row": wanted})

    def test_kinds(self):
        for number in (0, 1, 2, 6):
            told = chance_of((2, 3), ((1, 2), (1, 2)), number)
            self.assertIs(type(told), tuple)
            self.assertEqual(len(told), 2)
            self.is_plain(told)
        for number in (0, 2, 6):
            told = likeliest_row((2, 3), ((1, 2), (1, 2)), number)
            self.assertIs(type(told), tuple)
            self.assertEqual([type(thing) for thing in told], [tuple, tuple])
            self.assertEqual(len(told[0]), 2)
            self.is_plain(told)


class Chances(Held):
    def test_held_against_all_rows(self):
        for parts in SMALL:
            for shares in some_shares(parts):
                for number in range(11):
                    wanted = sum(weight_of(parts, shares, row) for row in all_rows(parts, number))
                    self.assertEqual(chance_of(parts, shares, number), pair(Fraction(wanted)), (parts, shares, number))

    def test_of_0_it_is_1(self):
        for parts in MANY_PARTS:
            for shares in some_shares(parts):
                self.assertEqual(chance_of(parts, shares, 0), (1, 1))

    def test_in_least_numbers(self):
        self.assertEqual(chance_of((1, 2), ((1, 2), (1, 2)), 2), (3, 4))
        self.assertEqual(chance_of((1, 2), ((1, 3), (2, 3)), 2), (7, 9))
        self.assertEqual(chance_of((1, 3), ((1, 2), (1, 2)), 3), (5, 8))
        self.assertEqual(chance_of((1, 2, 3), ((1, 2), (1, 4), (1, 4)), 2), (1, 2))

    def test_numbers_no_row_comes_to(self):
        for parts, number in (((2, 4), 299), ((3, 5), 7), ((7, 11), 59), ((3, 5), 1)):
            self.assertEqual(chance_of(parts, ((1, 2), (1, 2)), number), (0, 1))

    def test_one_part_alone(self):
        for part in (1, 2, 7, 40):
            for number in range(301):
                wanted = (1, 1) if number % part == 0 else (0, 1)
                self.assertEqual(chance_of((part,), ((1, 1),), number), wanted)

    def test_to_300(self):
        for parts in MANY_PARTS:
            for shares in some_shares(parts):
                for number in (41, 180, 299, 300):
                    above, below = chance_of(parts, shares, number)
                    self.assertEqual(gcd(above, below), 1)
                    self.assertTrue(0 <= above <= below)
                    for prime in (2 ** 127 - 1, 2 ** 521 - 1):
                        wanted = chance_modulo(parts, shares, number, prime)
                        self.assertEqual(above * pow(below, -1, prime) % prime, wanted, (parts, shares, number))

    def test_somewhat_more_raises_no_error(self):
        parts, shares = (3, 45), ((10 ** 9, 10 ** 9 + 1), (1, 10 ** 9 + 1))
        above, below = chance_of(parts, shares, 320)
        self.assertEqual(above * pow(below, -1, 2 ** 127 - 1) % (2 ** 127 - 1),
                         chance_modulo(parts, shares, 320, 2 ** 127 - 1))
        parts = tuple(range(1, 15))
        self.assertEqual(chance_of(parts, shares_by([1] * 14), 1), (1, 14))


class Likeliest(Held):
    def test_held_against_all_rows(self):
        for parts in SMALL:
            for shares in some_shares(parts):
                for number in range(11):
                    wanted = None
                    rows = all_rows(parts, number)
                    if rows:
                        weight, row = min((-weight_of(parts, shares, row), row) for row in rows)
                        wanted = pair(-weight), row
                    self.assertEqual(likeliest_row(parts, shares, number), wanted, (parts, shares, number))

    def test_the_first_of_several(self):
        self.assertEqual(likeliest_row((1, 2, 3), ((1, 2), (1, 4), (1, 4)), 2), ((1, 4), (1, 1)))
        self.assertEqual(likeliest_row((1, 2, 3), ((1, 4), (3, 8), (3, 8)), 5), ((9, 64), (2, 3)))
        halves = ((1, 2), (1, 4), (1, 8), (1, 8))
        for number in range(1, 12):
            wanted = (1, 2 ** number), (1,) * number
            # All rows of 1, 2 and 3 are as likely here.
            self.assertEqual(likeliest_row((1, 2, 3, 40), halves, number), wanted)
        self.assertEqual(likeliest_row((2, 3), ((1, 2), (1, 2)), 12), ((1, 16), (3, 3, 3, 3)))
        self.assertEqual(likeliest_row((2, 3), ((1, 2), (1, 2)), 13), ((1, 32), (2, 2, 3, 3, 3)))

    def test_the_row_of_none(self):
        for parts in MANY_PARTS:
            for shares in some_shares(parts):
                self.assertEqual(likeliest_row(parts, shares, 0), ((1, 1), ()))

    def test_none_where_no_row_comes_to_it(self):
        for parts, number in (((2, 4), 299), ((3, 5), 7), ((7, 11), 59), ((3, 5), 1)):
            self.assertIsNone(likeliest_row(parts, ((1, 2), (1, 2)), number))
        self.assertIsNone(likeliest_row((40,), ((1, 1),), 39))

    def test_one_part_alone(self):
        for part in (1, 2, 7, 40):
            many = 300 // part
            self.assertEqual(likeliest_row((part,), ((1, 1),), many * part), ((1, 1), (part,) * many))

    def test_to_300(self):
        for parts in MANY_PARTS:
            for shares in some_shares(parts):
                for number in (180, 299, 300):
                    told = likeliest_row(parts, shares, number)
                    wanted = greatest_logarithm(parts, shares, number)
                    if wanted == float("-inf"):
                        self.assertIsNone(told)
                        continue
                    (above, below), row = told
                    self.assertEqual(sum(row), number)
                    self.assertEqual((above, below), pair(weight_of(parts, shares, row)))
                    self.assertAlmostEqual(log(above) - log(below), wanted, places=6)
                    # As likely in any order, so the first one rises.
                    self.assertEqual(row, tuple(sorted(row)))

    def test_six_figures_exactly(self):
        parts = (1, 2, 3, 5, 8, 13, 21, 34, 37, 38, 39, 40)
        shares = shares_of_six_figures(12)
        bests = [(Fraction(1), ())]
        for reached in range(1, 61):
            choices = []
            for part, share in zip(parts, shares):
                if part <= reached:
                    weight, row = bests[reached - part]
                    choices.append((-weight * Fraction(*share), (part,) + row))
            weight, row = min(choices)
            bests.append((-weight, row))
        for number, (weight, row) in enumerate(bests):
            self.assertEqual(likeliest_row(parts, shares, number), (pair(weight), row))

    def test_somewhat_more_raises_no_error(self):
        told = likeliest_row((3, 45), ((10 ** 9, 10 ** 9 + 1), (1, 10 ** 9 + 1)), 321)
        self.assertEqual(told[1], (3,) * 107)


class Refused(Held):
    def refused(self, parts, shares, numbers):
        for number in numbers:
            for asked in BOTH:
                with self.assertRaises(NoShares, msg=(parts, shares, number)) as held:
                    asked(parts, shares, number)
                self.assertIs(type(held.exception), NoShares)

    def test_spoilt_at_each_place(self):
        for parts in ((1,), (2,), (1, 2), (3, 5), (2, 4, 6), (1, 2, 3, 4)):
            for shares in some_shares(parts):
                for wrong in spoilt(shares):
                    self.refused(parts, wrong, (0, 1, 6))

    def test_twelve_spoilt_at_each_place(self):
        for parts in MANY_PARTS[:2]:
            for shares in (some_shares(parts)[0], shares_of_six_figures(12)):
                for wrong in spoilt(shares):
                    self.refused(parts, wrong, (0, 300))

    def test_all_small_pairs_of_pairs(self):
        pairs = list(product(range(-2, 5), repeat=2))
        let = set()
        for shares in product(pairs, repeat=2):
            whole = all(
                above > 0 and below > 0 and gcd(above, below) == 1 for above, below in shares
            ) and sum(Fraction(*share) for share in shares) == 1
            if whole:
                let.add(shares)
                self.assertEqual(chance_of((1, 2), shares, 0), (1, 1))
            else:
                self.refused((1, 2), shares, (0, 3))
        self.assertEqual(let, {
            ((1, 2), (1, 2)), ((1, 3), (2, 3)), ((2, 3), (1, 3)), ((1, 4), (3, 4)), ((3, 4), (1, 4)),
        })

    def test_together_1_but_none_such(self):
        for shares in (
            ((2, 1), (-1, 1)), ((1, 1), (0, 1)), ((0, 1), (1, 1)), ((2, 4), (1, 2)), ((1, 2), (2, 4)),
            ((-1, -2), (1, 2)), ((1, 2), (-1, -2)), ((3, 2), (-1, 2)), ((1, 1), (0, 5)),
        ):
            self.refused((1, 2), shares, (0, 1, 7))
        self.refused((1,), ((2, 2),), (0, 1))
        self.refused((1, 2, 3), ((1, 2), (1, 2)), (0, 1))
        self.refused((1,), ((1, 2), (1, 2)), (0, 1))

    def test_many_more_pairs_than_parts(self):
        self.refused((1, 2), ((1, 2),) * 300, (0, 3))
        self.refused((1, 2), ((1, 1000),) * 1000, (0, 3))

    def test_ahead_of_anything_else(self):
        self.refused((2, 4), ((1, 2), (1, 3)), (0, 1, 3, 299))
        self.refused((40,), ((1, 2),), (0, 39))

    def test_why_is_told_by_str(self):
        with self.assertRaises(NoShares) as held:
            chance_of((1, 2), ((1, 2), (1, 3)), 3)
        self.assertIs(type(str(held.exception)), str)


class Again(Held):
    def test_asked_again_is_answered_the_same(self):
        parts, shares = (1, 2, 5), ((1, 2), (1, 3), (1, 6))
        first = [asked(parts, shares, 20) for asked in BOTH]
        for asked in BOTH:
            asked((1, 3), ((1, 2), (1, 2)), 12)
            with self.assertRaises(NoShares):
                asked(parts, shares[:2], 20)
        self.assertEqual([asked(parts, shares, 20) for asked in BOTH], first)
        self.assertEqual((parts, shares), ((1, 2, 5), ((1, 2), (1, 3), (1, 6))))


if __name__ == "__main__":
    unittest.main()
