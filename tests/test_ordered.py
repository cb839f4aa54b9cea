import unittest

from tests.helper import MANY_PARTS, WRONG_ROWS, Held, all_parts, all_rows, counts_by_many_parts
from toldparts.errors import NoPlace
from toldparts.rows import ordered
from toldparts.rows.ordered import next_row, nth_row, place_of

FAR = 10 ** 100


class Ordered(Held):
    def place_refused(self, parts, number, place):
        with self.assertRaises(NoPlace) as held:
            nth_row(parts, number, place)
        self.assertIs(type(held.exception), NoPlace)
        self.assertIs(type(str(held.exception)), str)

    def places(self, many):
        """Some places among so many rows, rising."""
        wanted = {0, 1, 2, many // 3, many // 2, many // 2 + 1, many - 2, many - 1}
        return sorted(place for place in wanted if 0 <= place < many)


class Interface(Ordered):
    def test_names_and_arguments(self):
        self.arguments_are(ordered, {
            "nth_row": "parts number place", "place_of": "parts row", "next_row": "parts row",
        })

    def test_kinds(self):
        self.assertIs(type(nth_row((1, 2), 4, 1)), tuple)
        self.is_plain(nth_row((1, 2), 4, 1))
        self.is_plain(nth_row((1, 2), 0, 0))
        self.assertIs(type(place_of((1, 2), (2, 1))), int)
        self.assertIs(type(place_of((1, 2), ())), int)
        self.assertIs(type(next_row((1, 2), (1, 2))), tuple)
        self.is_plain(next_row((1, 2), (1, 2)))


class AllRows(Ordered):
    def test_held_against_all_rows_in_order(self):
        for parts in all_parts(5) + [(2, 9), (3, 10), (6, 10, 11), (1, 40)]:
            for number in range(12):
                rows = sorted(all_rows(parts, number))
                for place, row in enumerate(rows):
                    self.assertEqual(nth_row(parts, number, place), row, (parts, number, place))
                    self.assertEqual(place_of(parts, row), place, (parts, row))
                    behind = rows[place + 1] if place + 1 < len(rows) else None
                    self.assertEqual(next_row(parts, row), behind, (parts, row))
                for place in (-1, -2, -FAR, len(rows), len(rows) + 1, FAR):
                    self.place_refused(parts, number, place)

    def test_the_next_rows_go_through_all(self):
        for parts, number in (((1, 2, 3), 11), ((2, 3, 7), 25), ((5, 8, 13), 60)):
            rows = [nth_row(parts, number, 0)]
            while rows[-1] is not None:
                rows.append(next_row(parts, rows[-1]))
            self.assertEqual(rows[:-1], sorted(all_rows(parts, number)))

    def test_ordered_as_tuples_not_by_how_many_parts(self):
        rows = [(1, 1, 1, 1), (1, 1, 2), (1, 2, 1), (2, 1, 1), (2, 2)]
        self.assertEqual([nth_row((1, 2), 4, place) for place in range(5)], rows)
        self.assertEqual([place_of((1, 2), row) for row in rows], list(range(5)))
        self.assertEqual([next_row((1, 2), row) for row in rows], rows[1:] + [None])

    def test_figures_are_no_words(self):
        self.assertEqual([nth_row((2, 10), 12, place) for place in range(3)], [(2,) * 6, (2, 10), (10, 2)])


class Ends(Ordered):
    def test_the_row_of_none(self):
        for parts in MANY_PARTS:
            self.assertEqual(nth_row(parts, 0, 0), ())
            self.assertEqual(place_of(parts, ()), 0)
            self.assertIsNone(next_row(parts, ()))
            for place in (-1, 1, FAR):
                self.place_refused(parts, 0, place)

    def test_numbers_that_no_row_comes_to(self):
        for parts, number in (((2, 4), 299), ((3, 5), 7), ((40,), 39), ((40,), 300), ((7, 11), 59)):
            for place in (-FAR, -1, 0, 1, FAR):
                self.place_refused(parts, number, place)

    def test_one_part_alone(self):
        for part in (1, 2, 15, 37, 40):
            many = 300 // part
            row = (part,) * many
            self.assertEqual(nth_row((part,), part * many, 0), row)
            self.assertEqual(place_of((part,), row), 0)
            self.assertIsNone(next_row((part,), row))
            self.place_refused((part,), part * many, 1)


class Greatest(Ordered):
    def test_places_of_300(self):
        for parts in MANY_PARTS:
            counts = counts_by_many_parts(parts, 300)
            for number in (299, 300):
                held = []
                for place in self.places(counts[number]):
                    row = nth_row(parts, number, place)
                    self.assertEqual(sum(row), number)
                    self.assertLessEqual(set(row), set(parts))
                    self.assertEqual(place_of(parts, row), place, (parts, number))
                    behind = nth_row(parts, number, place + 1) if place + 1 < counts[number] else None
                    self.assertEqual(next_row(parts, row), behind, (parts, number, place))
                    held.append(row)
                self.assertEqual(held, sorted(set(held)))
                for place in (-FAR, -1, counts[number], counts[number] + 1, FAR):
                    if not 0 <= place < counts[number]:
                        self.place_refused(parts, number, place)

    def test_a_place_of_a_hundred_figures(self):
        parts = tuple(range(1, 13))
        for place in (10 ** 89, 10 ** 88 + 1):
            self.assertEqual(place_of(parts, nth_row(parts, 300, place)), place)
        self.place_refused(parts, 300, FAR)

    def test_first_and_last_rows(self):
        parts = (1, 2, 3, 5, 8, 13, 21, 34, 37, 38, 39, 40)
        most = counts_by_many_parts(parts, 300)[300]
        self.assertEqual(nth_row(parts, 300, 0), (1,) * 300)
        self.assertEqual(nth_row(parts, 300, 1), (1,) * 298 + (2,))
        self.assertEqual(nth_row(parts, 300, most - 1), (40,) * 7 + (13, 5, 2))
        self.assertEqual(place_of(parts, (1,) * 300), 0)
        self.assertEqual(place_of(parts, (40,) * 7 + (13, 5, 2)), most - 1)
        self.assertIsNone(next_row(parts, (40,) * 7 + (13, 5, 2)))

    def test_the_greatest_part_does_not_always_begin_the_last_row(self):
        self.assertEqual(nth_row((3, 7, 40), 42, counts_by_many_parts((3, 7, 40), 42)[42] - 1), (7,) * 6)
        self.assertIsNone(next_row((3, 7, 40), (7,) * 6))

    def test_the_next_row_of_one_that_comes_to_more(self):
        self.assertIsNone(next_row((40,), (40,) * 300))
        self.assertIsNone(next_row((1, 40), (40,) * 299 + (1,)))
        self.assertEqual(next_row((39, 40), (40,) * 298 + (39, 40)), (40,) * 299 + (39,))
        self.assertEqual(next_row((1, 2), (2,) * 298 + (1, 2)), (2,) * 299 + (1,))

    def test_somewhat_more_raises_no_error(self):
        parts = (2, 3, 45)
        row = nth_row(parts, 320, 10 ** 30)
        self.assertEqual(place_of(parts, row), 10 ** 30)
        self.assertEqual(next_row(parts, row), nth_row(parts, 320, 10 ** 30 + 1))


class Refused(Ordered):
    def test_rows_that_are_none(self):
        for parts, row, place in WRONG_ROWS:
            self.row_refused(place_of, parts, row, place)
            self.row_refused(next_row, parts, row, place)

    def test_each_place_of_a_row(self):
        for wrong in (0, -1, 2, 4, 41, FAR, -FAR):
            for place in range(5):
                row = (1, 3, 3, 1, 5)
                row = row[:place] + (wrong,) + row[place + 1:]
                self.row_refused(place_of, (1, 3, 5), row, place)
                self.row_refused(next_row, (1, 3, 5), row, place)


class Again(Ordered):
    def test_asked_again_is_answered_the_same(self):
        parts, row = (1, 2, 5), (2, 1, 5, 1)
        first = (nth_row(parts, 9, 20), place_of(parts, row), next_row(parts, row))
        nth_row((1, 3), 12, 3)
        place_of((2, 3), (3, 2))
        self.assertEqual((nth_row(parts, 9, 20), place_of(parts, row), next_row(parts, row)), first)
        self.assertEqual((parts, row), ((1, 2, 5), (2, 1, 5, 1)))


if __name__ == "__main__":
    unittest.main()
