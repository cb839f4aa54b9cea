import unittest
from functools import reduce
from itertools import combinations
from math import gcd

from tests.helper import MANY_PARTS, Held, all_parts, all_rows, powers_of_parts
from toldparts.counts import none
from toldparts.counts.none import divisor_of, fewest, greatest_none, none_to
from toldparts.rows.begun import row_by_beginnings

SMALL = all_parts(5) + [(2, 9), (3, 10), (6, 10, 11), (1, 40), (4, 6), (6, 9, 20), (7,)]


def numbers_reached(parts, number):
    """The numbers to a told one that rows come to, as the bits of a number."""
    whole = (1 << number + 1) - 1
    reached, more = 0, 1
    while more != reached:
        reached = more
        for part in parts:
            more |= more << part & whole
    return {at for at in range(number + 1) if reached >> at & 1}


def greatest_by_rests(parts):
    """The greatest number without a row, by the least number with one for each rest by the first part."""
    first = parts[0]
    least = {0: 0}
    waiting = [0]
    while waiting:
        number = waiting.pop(0)
        for part in parts[1:]:
            longer = number + part
            if longer < least.get(longer % first, longer + 1):
                least[longer % first] = longer
                waiting.append(longer)
    return max(least.values()) - first if len(least) == first else None


class Interface(Held):
    def test_names_and_arguments(self):
        self.arguments_are(none, {
            "divisor_of": "parts",
            "none_to": "parts number",
            "greatest_none": "parts",
            "fewest": "parts number",
        })

    def test_kinds(self):
        for parts in ((1,), (2,), (1, 2), (2, 3), (4, 6)):
            self.assertIs(type(divisor_of(parts)), int)
            for number in (0, 1, 5):
                self.assertIs(type(none_to(parts, number)), tuple)
                self.is_plain(none_to(parts, number))
        self.assertIs(type(greatest_none((1, 2))), int)
        self.assertIs(type(greatest_none((2, 3))), int)
        for number in (0, 5):
            told = fewest((2, 3), number)
            self.assertEqual([type(thing) for thing in told], [int, tuple])
            self.is_plain(told)


class Divisor(Held):
    def test_held_against_math(self):
        for parts in all_parts(8) + list(MANY_PARTS) + list(combinations(range(1, 41), 2)):
            self.assertEqual(divisor_of(parts), reduce(gcd, parts), parts)

    def test_one_part_alone(self):
        for part in range(1, 41):
            self.assertEqual(divisor_of((part,)), part)

    def test_common_to_all_but_not_to_two(self):
        self.assertEqual(divisor_of((6, 10, 15)), 1)
        self.assertEqual(divisor_of((12, 20, 30)), 2)
        self.assertEqual(divisor_of((12, 24, 36)), 12)


class NoneTo(Held):
    def test_held_against_all_rows(self):
        for parts in SMALL:
            wanted = [number for number in range(1, 13) if not all_rows(parts, number)]
            for number in range(13):
                told = none_to(parts, number)
                self.assertEqual(told, tuple(one for one in wanted if one <= number), (parts, number))

    def test_to_0(self):
        for parts in MANY_PARTS:
            self.assertEqual(none_to(parts, 0), ())

    def test_the_told_one_is_in(self):
        self.assertEqual(none_to((3, 5), 7), (1, 2, 4, 7))
        self.assertEqual(none_to((3, 5), 6), (1, 2, 4))
        self.assertEqual(none_to((2,), 1), (1,))

    def test_to_300(self):
        for parts in MANY_PARTS:
            reached = numbers_reached(parts, 300)
            wanted = tuple(number for number in range(1, 301) if number not in reached)
            self.assertEqual(none_to(parts, 300), wanted)

    def test_somewhat_more_raises_no_error(self):
        self.assertEqual(none_to((2, 45), 320), tuple(range(1, 45, 2)))


class Greatest(Held):
    def test_the_part_1(self):
        for parts in MANY_PARTS + ((1,), (1, 2), (1, 40)):
            if 1 in parts:
                self.assertEqual(greatest_none(parts), -1)

    def test_a_common_divisor(self):
        for parts in ((2,), (40,), (2, 4), (6, 9), (12, 20, 30), (10, 15, 35), MANY_PARTS[3]):
            self.assertIsNone(greatest_none(parts))

    def test_all_twos_to_40(self):
        for one, other in combinations(range(2, 41), 2):
            wanted = one * other - one - other if gcd(one, other) == 1 else None
            self.assertEqual(greatest_none((one, other)), wanted, (one, other))

    def test_all_threes_to_18_held_against_rests(self):
        for parts in combinations(range(1, 19), 3):
            self.assertEqual(greatest_none(parts), greatest_by_rests(parts), parts)

    def test_held_against_numbers_reached(self):
        for parts in all_parts(7) + list(MANY_PARTS) + [(6, 10, 15), (6, 9, 20), (38, 39, 40), (36, 38, 39)]:
            told = greatest_none(parts)
            missing = set(range(1600)) - numbers_reached(parts, 1599)
            if told is None:
                self.assertGreater(max(missing), 1500)
            else:
                self.assertEqual(told, max(missing, default=-1), parts)
                self.assertNotEqual(told, 0)

    def test_the_greatest_of_all(self):
        self.assertEqual(greatest_none((39, 40)), 1481)

    def test_somewhat_more_raises_no_error(self):
        self.assertEqual(greatest_none((49, 50)), 49 * 50 - 99)
        self.assertEqual(greatest_none(tuple(range(30, 46))), greatest_by_rests(tuple(range(30, 46))))


class Fewest(Held):
    def test_held_against_all_rows(self):
        for parts in SMALL:
            for number in range(13):
                rows = all_rows(parts, number)
                wanted = min(((len(row), row) for row in rows), default=None)
                self.assertEqual(fewest(parts, number), wanted, (parts, number))

    def test_the_first_row_of_so_few(self):
        self.assertEqual(fewest((1, 3, 4), 6), (2, (3, 3)))
        self.assertEqual(fewest((1, 3, 4, 5), 6), (2, (1, 5)))
        self.assertEqual(fewest((2, 3, 4), 9), (3, (2, 3, 4)))
        self.assertEqual(fewest((1, 9, 10), 18), (2, (9, 9)))

    def test_the_number_0(self):
        for parts in MANY_PARTS:
            self.assertEqual(fewest(parts, 0), (0, ()))

    def test_numbers_no_row_comes_to(self):
        for parts, number in (((2, 4), 299), ((3, 5), 7), ((40,), 39), ((40,), 300), ((7, 11), 59)):
            self.assertIsNone(fewest(parts, number))

    def test_one_part_alone(self):
        for part in (1, 2, 7, 40):
            many = 300 // part
            self.assertEqual(fewest((part,), many * part), (many, (part,) * many))

    def test_to_300(self):
        for parts in MANY_PARTS:
            powers = powers_of_parts(parts, 300)
            for number in range(250, 301):
                fitting = [many for many, having in enumerate(powers) if number in having]
                if not fitting:
                    self.assertIsNone(fewest(parts, number))
                    continue
                row, rest = [], number
                # The least part behind which so few parts as are left can come to what is left.
                for left in range(fitting[0] - 1, -1, -1):
                    row.append(min(part for part in parts if rest - part in powers[left]))
                    rest -= row[-1]
                self.assertEqual(fewest(parts, number), (fitting[0], tuple(row)), (parts, number))

    def test_somewhat_more_raises_no_error(self):
        self.assertEqual(fewest((2, 45), 320), (31, (2,) * 25 + (45,) * 6))


class Beginnings(Held):
    def test_a_row_by_its_beginnings(self):
        bests = {0: (0, 0), 2: (1, 2), 5: (2, 3)}
        self.assertEqual(row_by_beginnings(bests, 0), ())
        self.assertEqual(row_by_beginnings(bests, 2), (2,))
        self.assertEqual(row_by_beginnings(bests, 5), (3, 2))


class Again(Held):
    def test_asked_again_is_answered_the_same(self):
        parts = (3, 5, 7)

        def asked():
            return divisor_of(parts), none_to(parts, 30), greatest_none(parts), fewest(parts, 29)

        first = asked()
        none_to((2,), 30)
        greatest_none((2, 9))
        fewest((2, 9), 29)
        self.assertEqual(asked(), first)
        self.assertEqual(parts, (3, 5, 7))


if __name__ == "__main__":
    unittest.main()
