import unittest
from math import gcd

from tests.helper import MANY_PARTS, WRONG_ROWS, Held, all_parts, all_rows, powers_of_parts, turns
from toldparts.rows import rings
from toldparts.rows.rings import all_rings, count_rings, how_many_turns, least_turn

SMALL = all_parts(5) + [(2, 9), (3, 10), (6, 10, 11), (1, 40)]
TWELVE = tuple(range(1, 13))


def rings_of_all_rows(parts, number):
    return sorted({min(turns(row)) for row in all_rows(parts, number)})


def rings_by_how_many_parts(parts, number):
    """How many rings there are, by how many parts they have: rows that a turn of the places leaves, on average."""
    powers = powers_of_parts(parts, number)
    total = 0
    for many in range(1, len(powers)):
        left = 0
        for turn in range(many):
            repeats = many // gcd(turn, many)
            if number % repeats == 0:
                left += powers[many // repeats].get(number // repeats, 0)
        assert left % many == 0
        total += left // many
    return total


class Interface(Held):
    def test_names_and_arguments(self):
        self.arguments_are(rings, {
            "least_turn": "parts row",
            "how_many_turns": "parts row",
            "count_rings": "parts number",
            "all_rings": "parts number",
        })

    def test_kinds(self):
        self.assertIs(type(least_turn((1, 2), (2, 1))), tuple)
        self.is_plain(least_turn((1, 2), (2, 1)))
        self.assertIs(type(how_many_turns((1, 2), (2, 1))), int)
        self.assertIs(type(count_rings((1, 2), 4)), int)
        self.assertIs(type(count_rings((4,), 3)), int)
        self.assertIs(type(all_rings((1, 2), 4)), list)
        self.assertIs(type(all_rings((4,), 3)), list)
        for row in all_rings((1, 2), 4):
            self.assertIs(type(row), tuple)
            self.is_plain(row)


class Turns(Held):
    def test_held_against_all_turns(self):
        for parts in SMALL:
            for number in range(1, 11):
                for row in all_rows(parts, number):
                    self.assertEqual(least_turn(parts, row), min(turns(row)), row)
                    self.assertEqual(how_many_turns(parts, row), len(set(turns(row))), row)

    def test_rows_of_alike_parts(self):
        for row in ((3,), (3, 3), (3,) * 7, (3,) * 300):
            self.assertEqual(least_turn((3, 4), row), row)
            self.assertEqual(how_many_turns((3, 4), row), 1)

    def test_rows_that_come_round(self):
        self.assertEqual(least_turn((1, 2), (2, 1, 2, 1)), (1, 2, 1, 2))
        self.assertEqual(how_many_turns((1, 2), (2, 1, 2, 1)), 2)
        self.assertEqual(least_turn((1, 2), (2, 1, 1) * 100), (1, 1, 2) * 100)
        self.assertEqual(how_many_turns((1, 2), (2, 1, 1) * 100), 3)
        self.assertEqual(how_many_turns((1, 2), (1, 2, 1, 2, 1)), 5)

    def test_the_first_least_part_does_not_always_begin(self):
        self.assertEqual(least_turn((1, 2, 3), (1, 3, 1, 2)), (1, 2, 1, 3))
        self.assertEqual(least_turn((1, 2), (1, 2, 1, 1, 2, 2)), (1, 1, 2, 2, 1, 2))

    def test_rows_of_300_parts(self):
        row = (40,) * 299 + (1,)
        self.assertEqual(least_turn((1, 40), row), (1,) + (40,) * 299)
        self.assertEqual(how_many_turns((1, 40), row), 300)
        row = tuple(1 + at * at % 12 for at in range(150)) * 2
        self.assertEqual(least_turn(TWELVE, row), min(turns(row)))
        self.assertEqual(how_many_turns(TWELVE, row), len(set(turns(row))))
        self.assertEqual(how_many_turns((1, 2), (1,) * 149 + (2,) + (1,) * 149 + (2,)), 150)

    def test_somewhat_more_raises_no_error(self):
        self.assertEqual(least_turn((1, 45), (45,) * 310 + (1,)), (1,) + (45,) * 310)
        self.assertEqual(how_many_turns((1, 45), (45,) * 310 + (1,)), 311)


class Refused(Held):
    def test_rows_that_are_none(self):
        for parts, row, place in WRONG_ROWS:
            self.row_refused(least_turn, parts, row, place)
            self.row_refused(how_many_turns, parts, row, place)

    def test_the_row_of_none(self):
        for parts in MANY_PARTS:
            self.row_refused(least_turn, parts, (), 0)
            self.row_refused(how_many_turns, parts, (), 0)


class Counted(Held):
    def test_held_against_all_rows(self):
        for parts in SMALL:
            for number in range(1, 12):
                wanted = len(rings_of_all_rows(parts, number))
                self.assertEqual(count_rings(parts, number), wanted, (parts, number))

    def test_to_300(self):
        for parts in MANY_PARTS:
            for number in (1, 40, 41, 120, 128, 240, 293, 299, 300, 301):
                wanted = rings_by_how_many_parts(parts, number)
                self.assertEqual(count_rings(parts, number), wanted, (parts, number))

    def test_one_part_alone(self):
        for part in (1, 2, 7, 40):
            for number in range(1, 301):
                self.assertEqual(count_rings((part,), number), 1 if number % part == 0 else 0)

    def test_numbers_that_no_row_comes_to(self):
        for parts, number in (((2, 4), 299), ((3, 5), 7), ((40,), 39), ((7, 11), 59)):
            self.assertEqual(count_rings(parts, number), 0)

    def test_no_ring_of_none(self):
        self.assertEqual(count_rings((1, 2), 0), 0)
        self.assertEqual(all_rings((1, 2), 0), [])


class AllRings(Held):
    def test_held_against_all_rows(self):
        for parts in SMALL:
            for number in range(1, 12):
                self.assertEqual(all_rings(parts, number), rings_of_all_rows(parts, number), (parts, number))

    def test_each_by_its_least_row_in_order(self):
        self.assertEqual(all_rings((1, 2, 3, 4), 4), [(1, 1, 1, 1), (1, 1, 2), (1, 3), (2, 2), (4,)])
        self.assertEqual(all_rings((1, 2), 6), [(1,) * 6, (1, 1, 1, 1, 2), (1, 1, 2, 2), (1, 2, 1, 2), (2, 2, 2)])

    def test_to_16(self):
        for parts in (TWELVE, (1, 2), (2, 3, 5, 7, 11, 13), (1, 15, 16), (5, 8, 16, 17), (1,), (16,), (3,), (40,)):
            for number in (12, 13, 15, 16):
                self.assertEqual(all_rings(parts, number), rings_of_all_rows(parts, number), (parts, number))

    def test_somewhat_more_raises_no_error(self):
        for number in (17, 18):
            self.assertEqual(len(all_rings(TWELVE, number)), count_rings(TWELVE, number))

    def test_numbers_that_no_row_comes_to(self):
        for parts, number in (((2, 4), 15), ((3, 5), 7), ((40,), 16), ((7, 11), 16)):
            self.assertEqual(all_rings(parts, number), [])


class Again(Held):
    def test_the_list_is_the_askers_own(self):
        first = all_rings((1, 2), 5)
        wanted = list(first)
        first.append("more")
        del first[0]
        self.assertEqual(all_rings((1, 2), 5), wanted)

    def test_asked_again_is_answered_the_same(self):
        parts, row = (1, 2, 5), (5, 2, 1, 2)

        def asked():
            return least_turn(parts, row), how_many_turns(parts, row), count_rings(parts, 30), all_rings(parts, 9)

        first = asked()
        all_rings((1, 3), 12)
        count_rings((1, 3), 12)
        self.assertEqual(asked(), first)
        self.assertEqual((parts, row), ((1, 2, 5), (5, 2, 1, 2)))


if __name__ == "__main__":
    unittest.main()
