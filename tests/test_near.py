import inspect
import unittest

from tests.helper import (
    MANY_PARTS, all_parts, all_rows, counts_by_many_parts, rest_by_matrix, rests_one_by_one,
)
from toldparts.counts import near
from toldparts.counts.near import count_rows, counts_to, far_count

GREAT = 10 ** 18
DIVISORS = (1, 2, 3, 4, 7, 12, 1000, 2 ** 29, 998244353, 10 ** 9 - 1, 10 ** 9)


class Interface(unittest.TestCase):
    def test_names_and_arguments(self):
        wanted = {
            "count_rows": ["parts", "number"],
            "counts_to": ["parts", "number"],
            "far_count": ["parts", "number", "divisor"],
        }
        for name, arguments in wanted.items():
            self.assertEqual(list(inspect.signature(getattr(near, name)).parameters), arguments)

    def test_kinds(self):
        for told in (count_rows((1, 2), 5), far_count((1, 2), 5, 3), count_rows((2,), 0), far_count((2,), 0, 1)):
            self.assertIs(type(told), int)
        told = counts_to((1, 2), 5)
        self.assertIs(type(told), tuple)
        self.assertEqual({type(count) for count in told}, {int})


class Near(unittest.TestCase):
    def test_held_against_all_rows(self):
        for parts in all_parts(5) + [(2, 9), (3, 40), (6, 10, 11)]:
            counts = tuple(len(all_rows(parts, number)) for number in range(12))
            for number in range(12):
                self.assertEqual(count_rows(parts, number), counts[number], (parts, number))
                self.assertEqual(counts_to(parts, number), counts[:number + 1], (parts, number))

    def test_order_counts(self):
        self.assertEqual(count_rows((1, 2), 3), 3)
        self.assertEqual(counts_to((1, 2, 3), 6), (1, 1, 2, 4, 7, 13, 24))

    def test_to_0_comes_the_row_of_none(self):
        for parts in MANY_PARTS:
            self.assertEqual(count_rows(parts, 0), 1)
            self.assertEqual(counts_to(parts, 0), (1,))

    def test_numbers_that_no_row_comes_to(self):
        self.assertEqual(count_rows((2, 4), 7), 0)
        self.assertEqual(count_rows((2, 4), 299), 0)
        self.assertEqual(count_rows((3, 5), 7), 0)
        self.assertEqual(count_rows((40,), 39), 0)
        self.assertEqual(counts_to((3, 5), 8), (1, 0, 0, 1, 0, 1, 1, 0, 2))
        self.assertEqual(counts_to((40,), 80), (1,) + (0,) * 39 + (1,) + (0,) * 39 + (1,))

    def test_to_300_held_against_counts_by_how_many_parts(self):
        for parts in MANY_PARTS:
            counts = counts_by_many_parts(parts, 300)
            self.assertEqual(counts_to(parts, 300), counts)
            for number in (1, 28, 29, 40, 41, 150, 299, 300):
                self.assertEqual(count_rows(parts, number), counts[number], (parts, number))

    def test_counts_as_great_as_they_need(self):
        one, other = 1, 1
        for step in range(299):
            one, other = other, one + other
        self.assertEqual(count_rows((1, 2), 300), other)
        self.assertEqual(count_rows(tuple(range(1, 13)), 12), 2 ** 11)

    def test_asked_again_is_answered_the_same(self):
        first = counts_to((1, 2), 30)
        held = list(first)
        counts_to((1, 3), 40)
        self.assertEqual(counts_to((1, 2), 30), first)
        self.assertEqual(list(first), held)
        self.assertEqual(count_rows((1, 2), 30), count_rows((1, 2), 30))


class SomewhatMore(unittest.TestCase):
    def test_raises_no_error(self):
        for parts in ((1, 41), (41, 45), tuple(range(31, 46))):
            for number in (301, 350):
                counts = counts_to(parts, number)
                self.assertEqual(count_rows(parts, number), counts[number])
                self.assertEqual(far_count(parts, number, 10 ** 9 + 7), counts[number] % (10 ** 9 + 7))
            told = far_count(parts, GREAT + 1, 10 ** 10)
            self.assertEqual(told, rest_by_matrix(parts, GREAT + 1, 10 ** 10))


class Far(unittest.TestCase):
    def test_small_numbers_held_against_near_counts(self):
        for parts in all_parts(4) + list(MANY_PARTS):
            counts = counts_to(parts, 60)
            for divisor in (1, 2, 3, 10, 10 ** 9):
                for number in range(61):
                    told = far_count(parts, number, divisor)
                    self.assertEqual(told, counts[number] % divisor, (parts, number, divisor))

    def test_to_300_held_against_near_counts(self):
        for parts in MANY_PARTS:
            for number in (200, 255, 256, 299, 300):
                for divisor in DIVISORS:
                    told = far_count(parts, number, divisor)
                    self.assertEqual(told, count_rows(parts, number) % divisor, (parts, number, divisor))

    def test_the_divisor_1_leaves_nothing(self):
        for parts in MANY_PARTS:
            for number in (0, 1, 40, 10 ** 9, GREAT):
                self.assertEqual(far_count(parts, number, 1), 0)

    def test_the_number_0(self):
        for parts in MANY_PARTS:
            self.assertEqual(far_count(parts, 0, 2), 1)
            self.assertEqual(far_count(parts, 0, 10 ** 9), 1)

    def test_thousands_held_against_all_numbers_below(self):
        for parts in MANY_PARTS:
            for number, divisor in ((4095, 10 ** 9), (10 ** 4, 998244353), (9999, 6)):
                told = far_count(parts, number, divisor)
                self.assertEqual(told, rests_one_by_one(parts, number, divisor), (parts, number, divisor))

    def test_one_part_comes_to_its_multiples_alone(self):
        for part in range(1, 41):
            for number in (GREAT, GREAT - 1, GREAT - GREAT % part, 10 ** 17 + 3):
                self.assertEqual(far_count((part,), number, 10 ** 9), 1 if number % part == 0 else 0)

    def test_numbers_that_no_row_comes_to(self):
        self.assertEqual(far_count((2, 4, 40), GREAT - 1, 10 ** 9), 0)
        self.assertEqual(far_count((3, 6, 39), GREAT, 10 ** 9), 0)

    def test_great_numbers_held_against_matrices(self):
        for parts in ((1, 2), (2, 3), (1, 5, 6), (4, 7, 9), (1, 2, 3, 4, 5, 6, 7, 8, 9, 10, 11, 12)):
            for number in (GREAT, GREAT - 1, 2 ** 59, 2 ** 59 - 1, 123456789012345678):
                for divisor in (2, 720, 998244353, 10 ** 9):
                    told = far_count(parts, number, divisor)
                    self.assertEqual(told, rest_by_matrix(parts, number, divisor), (parts, number, divisor))

    def test_great_numbers_with_twelve_parts_to_40(self):
        for parts in MANY_PARTS[1:4]:
            told = far_count(parts, GREAT, 10 ** 9)
            self.assertEqual(told, rest_by_matrix(parts, GREAT, 10 ** 9), parts)

    def test_asked_again_is_answered_the_same(self):
        first = far_count((1, 2, 40), GREAT, 10 ** 9)
        far_count((1, 3), GREAT, 7)
        self.assertEqual(far_count((1, 2, 40), GREAT, 10 ** 9), first)


if __name__ == "__main__":
    unittest.main()
