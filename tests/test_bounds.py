import unittest
from collections import Counter
from itertools import product
from math import factorial

from tests.helper import MANY_PARTS, Held, all_parts, all_rows, counts_by_many_parts, powers_of_parts
from toldparts.counts import bounds
from toldparts.counts.bounds import count_apart, count_bounded, count_with, counts_by_many

FAR = 10 ** 100
SMALL = all_parts(5) + [(2, 9), (3, 10), (6, 10, 11), (1, 40)]


def apart(row):
    return all(one != other for one, other in zip(row, row[1:]))


def apart_by_last_parts(parts, number):
    """How many rows have no alike neighbours, each told by the part behind the rest's last other part."""
    last = [{0: 1}]
    for reached in range(1, number + 1):
        ending = {}
        for part in parts:
            if part <= reached:
                ending[part] = sum(count for other, count in last[reached - part].items() if other != part)
        last.append(ending)
    return sum(last[number].values())


def bounded_by_multiplicities(parts, number, limits):
    """How many rows there are within bounds, gone through by how often each part comes."""
    total = 0
    ranges = [range(min(limit, number // part) + 1) for part, limit in zip(parts, limits)]
    for often in product(*ranges):
        if sum(times * part for times, part in zip(often, parts)) == number:
            orders = factorial(sum(often))
            for times in often:
                orders //= factorial(times)
            total += orders
    return total


class Interface(Held):
    def test_names_and_arguments(self):
        self.arguments_are(bounds, {
            "count_with": "parts number many",
            "counts_by_many": "parts number",
            "count_bounded": "parts number bounds",
            "count_apart": "parts number",
        })

    def test_kinds(self):
        for number in (0, 1, 5):
            for told in (
                count_with((2, 3), number, 0), count_with((2, 3), number, 2), count_with((2, 3), number, FAR),
                count_bounded((2, 3), number, (1, 1)), count_bounded((2, 3), number, (0, 0)),
                count_apart((2, 3), number),
            ):
                self.assertIs(type(told), int)
            self.assertIs(type(counts_by_many((2, 3), number)), tuple)
            self.is_plain(counts_by_many((2, 3), number))


class SoMany(Held):
    def test_held_against_all_rows(self):
        for parts in SMALL:
            for number in range(12):
                having = Counter(len(row) for row in all_rows(parts, number))
                most = max(having, default=-1)
                told = counts_by_many(parts, number)
                self.assertEqual(told, tuple(having[many] for many in range(most + 1)), (parts, number))
                for many in list(range(15)) + [FAR]:
                    self.assertEqual(count_with(parts, number, many), having[many], (parts, number, many))

    def test_the_number_0(self):
        for parts in MANY_PARTS:
            self.assertEqual(counts_by_many(parts, 0), (1,))
            self.assertEqual(count_with(parts, 0, 0), 1)
            self.assertEqual(count_with(parts, 0, 1), 0)
            self.assertEqual(count_with(parts, 0, FAR), 0)

    def test_none_where_there_are_none(self):
        for parts, number in (((2, 4), 299), ((3, 5), 7), ((40,), 39), ((40,), 300), ((7, 11), 59)):
            self.assertEqual(counts_by_many(parts, number), ())
            for many in (0, 1, 2, 100, 300, FAR):
                self.assertEqual(count_with(parts, number, many), 0)

    def test_one_part_alone(self):
        for part in (1, 2, 7, 40):
            many = 300 // part
            self.assertEqual(counts_by_many((part,), part * many), (0,) * many + (1,))
            self.assertEqual(count_with((part,), part * many, many), 1)
            self.assertEqual(count_with((part,), part * many, many - 1), 0)
            self.assertEqual(count_with((part,), part * many, many + 1), 0)

    def test_numbers_of_parts_with_none_between(self):
        self.assertEqual(counts_by_many((1, 10), 20), (0, 0, 1) + (0,) * 8 + (11,) + (0,) * 8 + (1,))

    def test_to_300(self):
        for parts in MANY_PARTS:
            powers = powers_of_parts(parts, 300)
            for number in (41, 120, 299, 300):
                wanted = [having.get(number, 0) for having in powers]
                while wanted and wanted[-1] == 0:
                    wanted.pop()
                self.assertEqual(counts_by_many(parts, number), tuple(wanted), (parts, number))
                for many in (0, 1, 7, 8, 60, 150, 299, 300, 301, 10 ** 6, FAR - 1, FAR):
                    count = wanted[many] if many < len(wanted) else 0
                    self.assertEqual(count_with(parts, number, many), count, (parts, number, many))

    def test_somewhat_more_raises_no_error(self):
        self.assertEqual(sum(counts_by_many((1, 2, 45), 320)), counts_by_many_parts((1, 2, 45), 320)[320])
        self.assertEqual(count_with((1, 2, 45), 320, FAR * 10), 0)
        self.assertEqual(count_with((1, 2, 45), 320, -1), 0)
        self.assertEqual(count_with((1, 2, 45), 320, 320), 1)


class Bounded(Held):
    def test_held_against_all_rows(self):
        for parts in all_parts(3) + [(1, 4), (2, 5), (3, 4, 5), (4, 40)]:
            for number in range(9):
                having = [[row.count(part) for part in parts] for row in all_rows(parts, number)]
                for limits in product((0, 1, 2, 3, 10 ** 6), repeat=len(parts)):
                    wanted = sum(all(times <= limit for times, limit in zip(often, limits)) for often in having)
                    told = count_bounded(parts, number, limits)
                    self.assertEqual(told, wanted, (parts, number, limits))

    def test_a_bound_for_each_part_in_order(self):
        self.assertEqual(count_bounded((1, 2), 4, (4, 0)), 1)
        self.assertEqual(count_bounded((1, 2), 4, (0, 4)), 1)
        self.assertEqual(count_bounded((1, 2), 4, (2, 1)), 3)
        self.assertEqual(count_bounded((1, 2), 4, (1, 2)), 1)
        self.assertEqual(count_bounded((1, 2), 4, (1, 1)), 0)

    def test_bounds_of_none(self):
        for parts in MANY_PARTS:
            limits = (0,) * len(parts)
            self.assertEqual(count_bounded(parts, 0, limits), 1)
            for number in (1, 40, 99, 100):
                self.assertEqual(count_bounded(parts, number, limits), 0)

    def test_far_bounds_bound_nothing(self):
        for parts in MANY_PARTS:
            counts = counts_by_many_parts(parts, 100)
            for number in (0, 1, 39, 40, 41, 99, 100):
                for bound in (100, 10 ** 6):
                    told = count_bounded(parts, number, (bound,) * len(parts))
                    self.assertEqual(told, counts[number], (parts, number, bound))

    def test_to_100_by_how_often_each_part_comes(self):
        for parts, limits in (
            ((1, 2, 3), (40, 20, 7)), ((1, 2, 3), (0, 50, 33)), ((7, 9, 11, 13), (3, 10 ** 6, 2, 4)),
            ((20, 25, 39, 40), (5, 4, 2, 1)), (tuple(range(29, 41)), (1, 0, 2) * 4), (tuple(range(1, 11)), (2,) * 10),
        ):
            for number in (99, 100):
                told = count_bounded(parts, number, limits)
                self.assertEqual(told, bounded_by_multiplicities(parts, number, limits), (parts, number, limits))

    def test_to_100_by_the_last_part(self):
        for parts, limits in (
            (tuple(range(1, 13)), (100, 0, 3, 7, 1, 2, 10 ** 6, 5, 4, 0, 9, 1)),
            (tuple(range(1, 13)), (2,) * 12),
            ((1, 2, 3, 5, 8, 13, 21, 34, 37, 38, 39, 40), (60, 9, 8, 7, 6, 5, 4, 3, 2, 1, 0, 1)),
        ):
            wanted = 0
            for at, part in enumerate(parts):
                if limits[at] > 0:
                    fewer = limits[:at] + (limits[at] - 1,) + limits[at + 1:]
                    wanted += count_bounded(parts, 100 - part, fewer)
            self.assertEqual(count_bounded(parts, 100, limits), wanted)
            self.assertGreater(wanted, 0)

    def test_each_part_at_most_once(self):
        parts = tuple(range(1, 13))
        self.assertEqual(count_bounded(parts, 78, (1,) * 12), factorial(12))
        self.assertEqual(count_bounded(parts, 79, (1,) * 12), 0)
        self.assertEqual(count_bounded(parts, 77, (1,) * 12), factorial(11))

    def test_one_part_alone(self):
        for bound in (0, 1, 2, 3, 10 ** 6):
            for number in range(8):
                wanted = 1 if number % 2 == 0 and number // 2 <= bound else 0
                self.assertEqual(count_bounded((2,), number, (bound,)), wanted)

    def test_somewhat_more_raises_no_error(self):
        counts = counts_by_many_parts((1, 2, 45), 120)
        self.assertEqual(count_bounded((1, 2, 45), 120, (10 ** 7,) * 3), counts[120])


class Apart(Held):
    def test_held_against_all_rows(self):
        for parts in SMALL:
            for number in range(12):
                wanted = sum(apart(row) for row in all_rows(parts, number))
                self.assertEqual(count_apart(parts, number), wanted, (parts, number))

    def test_the_row_of_none_and_rows_of_one(self):
        for parts in MANY_PARTS:
            self.assertEqual(count_apart(parts, 0), 1)
            self.assertEqual(count_apart(parts, parts[0]), 1)

    def test_one_part_alone(self):
        for part in (1, 2, 40):
            self.assertEqual(count_apart((part,), part), 1)
            for number in (1, 3, 2 * part, 3 * part, 300):
                if number != part:
                    self.assertEqual(count_apart((part,), number), 0)

    def test_two_parts_by_turns(self):
        self.assertEqual(count_apart((1, 2), 300), 2)
        self.assertEqual(count_apart((1, 2), 299), 1)
        self.assertEqual(count_apart((1, 2), 298), 1)

    def test_numbers_that_no_row_comes_to(self):
        self.assertEqual(count_apart((2, 4), 299), 0)
        self.assertEqual(count_apart((3, 5), 7), 0)

    def test_to_300(self):
        for parts in MANY_PARTS:
            for number in (40, 41, 120, 299, 300, 310):
                self.assertEqual(count_apart(parts, number), apart_by_last_parts(parts, number), (parts, number))


class Again(Held):
    def test_asked_again_is_answered_the_same(self):
        parts, limits = (1, 2, 5), (3, 2, 1)

        def asked():
            return (
                count_with(parts, 20, 9), counts_by_many(parts, 20),
                count_bounded(parts, 10, limits), count_apart(parts, 20),
            )

        first = asked()
        counts_by_many((1, 3), 30)
        count_bounded((1, 3), 30, (5, 5))
        self.assertEqual(asked(), first)
        self.assertEqual((parts, limits), ((1, 2, 5), (3, 2, 1)))


if __name__ == "__main__":
    unittest.main()
