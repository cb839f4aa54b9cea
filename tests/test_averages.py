import unittest
from collections import Counter
from fractions import Fraction
from math import gcd

from tests.helper import MANY_PARTS, Held, all_parts, all_rows, counts_by_many_parts, pair, powers_of_parts
from toldparts.divisors import common_divisor, least_fraction
from toldparts.shares import averages as module
from toldparts.shares.averages import averages, likeliest_many

SMALL = all_parts(5) + [(2, 9), (3, 10), (6, 10, 11), (1, 40)]


class Interface(Held):
    def test_names_and_arguments(self):
        self.arguments_are(module, {"averages": "parts number", "likeliest_many": "parts number"})

    def test_kinds(self):
        for number in (0, 2, 6):
            told = averages((2, 3), number)
            self.assertIs(type(told), tuple)
            self.assertEqual(len(told), 2)
            self.assertEqual(len(told[0]), 2)
            self.assertIs(type(told[1]), tuple)
            self.assertEqual([len(fraction) for fraction in told[1]], [2, 2])
            self.is_plain(told)
            self.assertIs(type(likeliest_many((2, 3), number)), int)


class Averages(Held):
    def test_held_against_all_rows(self):
        for parts in SMALL:
            for number in range(12):
                rows = all_rows(parts, number)
                wanted = None
                if rows:
                    many = pair(Fraction(sum(len(row) for row in rows), len(rows)))
                    often = [Fraction(sum(row.count(part) for row in rows), len(rows)) for part in parts]
                    wanted = (many, tuple(pair(fraction) for fraction in often))
                self.assertEqual(averages(parts, number), wanted, (parts, number))

    def test_in_least_numbers(self):
        self.assertEqual(averages((1, 2), 2), ((3, 2), ((1, 1), (1, 2))))
        self.assertEqual(averages((1, 2, 3, 4), 4), ((5, 2), ((3, 2), (5, 8), (1, 4), (1, 8))))
        self.assertEqual(averages((2, 3), 6), ((5, 2), ((3, 2), (1, 1))))

    def test_the_number_0(self):
        for parts in MANY_PARTS:
            self.assertEqual(averages(parts, 0), ((0, 1), ((0, 1),) * len(parts)))

    def test_none_where_there_is_none(self):
        for parts, number in (((2, 4), 299), ((3, 5), 7), ((40,), 39), ((40,), 300), ((7, 11), 59)):
            self.assertIsNone(averages(parts, number))
            self.assertIsNone(likeliest_many(parts, number))

    def test_one_part_alone(self):
        for part in (1, 2, 7, 40):
            many = 300 // part
            self.assertEqual(averages((part,), part * many), ((many, 1), ((many, 1),)))

    def test_a_part_that_never_comes(self):
        self.assertEqual(averages((2, 3, 40), 5), ((2, 1), ((1, 1), (1, 1), (0, 1))))

    def test_to_300(self):
        for parts in MANY_PARTS:
            powers = powers_of_parts(parts, 300)
            counts = counts_by_many_parts(parts, 300)
            for number in (41, 120, 299, 300):
                having = [layer.get(number, 0) for layer in powers]
                if not any(having):
                    continue
                many, often = averages(parts, number)
                for above, below in (many,) + often:
                    self.assertGreaterEqual(below, 1)
                    self.assertEqual(gcd(above, below), 1)
                wanted = Fraction(sum(at * count for at, count in enumerate(having)), counts[number])
                self.assertEqual(many, pair(wanted), (parts, number))
                self.assertEqual(sum(Fraction(*fraction) for fraction in often), wanted)
                whole = sum(part * Fraction(*fraction) for part, fraction in zip(parts, often))
                self.assertEqual(whole, number)

    def test_each_part_to_300_by_rows_with_and_without_it(self):
        parts = (1, 2, 3, 5, 8, 13, 21, 34, 37, 38, 39, 40)
        often = averages(parts, 300)[1]
        for at, part in enumerate(parts):
            # How often the part comes so far, over all rows that come to each number.
            counts, times = [1], [0]
            for reached in range(1, 301):
                lasts = [last for last in parts if last <= reached]
                counts.append(sum(counts[reached - last] for last in lasts))
                more = counts[reached - part] if part <= reached else 0
                times.append(sum(times[reached - last] for last in lasts) + more)
            self.assertEqual(often[at], pair(Fraction(times[300], counts[300])), part)

    def test_somewhat_more_raises_no_error(self):
        many, often = averages((2, 45), 320)
        self.assertEqual(sum(Fraction(*fraction) for fraction in often), Fraction(*many))


class Likeliest(Held):
    def test_held_against_all_rows(self):
        for parts in SMALL:
            for number in range(12):
                having = Counter(len(row) for row in all_rows(parts, number))
                wanted = min(having, key=lambda many: (-having[many], many)) if having else None
                self.assertEqual(likeliest_many(parts, number), wanted, (parts, number))

    def test_the_least_one_of_several(self):
        self.assertEqual(likeliest_many((1, 2), 2), 1)
        self.assertEqual(likeliest_many((1, 2, 3), 3), 2)
        self.assertEqual(likeliest_many((1, 2, 3, 4), 4), 2)
        self.assertEqual(likeliest_many((1, 6), 6), 1)

    def test_the_number_0(self):
        for parts in MANY_PARTS:
            self.assertEqual(likeliest_many(parts, 0), 0)

    def test_one_part_alone(self):
        for part in (1, 2, 7, 40):
            many = 300 // part
            self.assertEqual(likeliest_many((part,), part * many), many)

    def test_to_300(self):
        for parts in MANY_PARTS:
            powers = powers_of_parts(parts, 300)
            for number in (41, 120, 299, 300):
                having = [layer.get(number, 0) for layer in powers]
                wanted = having.index(max(having)) if any(having) else None
                self.assertEqual(likeliest_many(parts, number), wanted, (parts, number))


class Divisors(Held):
    def test_common_divisors(self):
        for one in range(30):
            for other in range(30):
                self.assertEqual(common_divisor(one, other), gcd(one, other), (one, other))

    def test_least_fractions(self):
        for above in range(30):
            for below in range(1, 30):
                self.assertEqual(least_fraction(above, below), pair(Fraction(above, below)))


class Again(Held):
    def test_asked_again_is_answered_the_same(self):
        parts = (1, 2, 5)
        first = averages(parts, 20), likeliest_many(parts, 20)
        averages((1, 3), 12)
        likeliest_many((1, 3), 12)
        self.assertEqual((averages(parts, 20), likeliest_many(parts, 20)), first)
        self.assertEqual(parts, (1, 2, 5))


if __name__ == "__main__":
    unittest.main()
