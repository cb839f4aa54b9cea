import inspect
import unittest
from itertools import permutations, product

from tests.helper import all_parts, all_rows
from toldparts.errors import NoParts, NoRow
from toldparts.rows import texts
from toldparts.rows.texts import is_row, numbers_shown, read_parts, read_row

TWELVE = tuple(range(29, 41))


class Texts(unittest.TestCase):
    def parts_refused(self, text, place):
        with self.assertRaises(NoParts) as held:
            read_parts(text)
        self.assertIs(type(held.exception), NoParts)
        self.assertEqual(held.exception.place, place, repr(text))
        self.assertIs(type(held.exception.place), int)

    def row_refused(self, parts, text, place):
        with self.assertRaises(NoRow) as held:
            read_row(parts, text)
        self.assertIs(type(held.exception), NoRow)
        self.assertEqual(held.exception.place, place, repr(text))
        self.assertIs(type(held.exception.place), int)

    def same_numbers(self, told, numbers):
        self.assertEqual(told, numbers)
        self.assertIs(type(told), tuple)
        for number in told:
            self.assertIs(type(number), int)


class Interface(unittest.TestCase):
    def test_names_and_arguments(self):
        wanted = {
            "read_parts": ["text"],
            "read_row": ["parts", "text"],
            "numbers_shown": ["numbers"],
            "is_row": ["parts", "number", "thing"],
        }
        for name, arguments in wanted.items():
            self.assertEqual(list(inspect.signature(getattr(texts, name)).parameters), arguments)


class Shown(Texts):
    def test_numbers_parted_by_single_blanks(self):
        self.assertEqual(numbers_shown((1, 2, 5)), "1 2 5")
        self.assertEqual(numbers_shown((40, 1, 40, 10)), "40 1 40 10")
        self.assertEqual(numbers_shown((7,)), "7")
        self.assertIs(type(numbers_shown((7,))), str)

    def test_a_row_of_none_has_no_signs(self):
        self.assertEqual(numbers_shown(()), "")

    def test_a_row_of_300_parts(self):
        self.assertEqual(numbers_shown((1, 40) * 150), ("1 40 " * 150)[:-1])


class PartsRead(Texts):
    def test_shown_and_read_again(self):
        for parts in all_parts(6) + [TWELVE, (40,), (1, 10, 20, 40)]:
            self.same_numbers(read_parts(numbers_shown(parts)), parts)

    def test_in_any_order(self):
        for mixed in permutations((1, 2, 9, 10, 40)):
            self.same_numbers(read_parts(numbers_shown(mixed)), (1, 2, 9, 10, 40))
        self.same_numbers(read_parts(numbers_shown(TWELVE[::-1])), TWELVE)

    def test_a_text_without_signs(self):
        self.parts_refused("", 0)

    def test_noughts(self):
        self.parts_refused("0", 0)
        self.parts_refused("1 0", 1)
        self.parts_refused("01", 0)
        self.parts_refused("1 2 003", 2)
        self.parts_refused("00", 0)
        self.same_numbers(read_parts("10 20"), (10, 20))

    def test_signs_ahead(self):
        self.parts_refused("+1", 0)
        self.parts_refused("-1", 0)
        self.parts_refused("3 +2", 1)
        self.parts_refused("3 5 -7", 2)

    def test_blanks(self):
        self.parts_refused(" ", 0)
        self.parts_refused("   ", 0)
        self.parts_refused(" 1 2", 0)
        self.parts_refused("1 2 ", 2)
        self.parts_refused("1  2", 1)
        self.parts_refused("1 2   3", 2)

    def test_line_ends(self):
        self.parts_refused("\n", 0)
        self.parts_refused("1\n", 0)
        self.parts_refused("1\n2", 0)
        self.parts_refused("1 2\n", 1)
        self.parts_refused("1 2 \n", 2)
        self.parts_refused("1 \n 2", 1)

    def test_other_words(self):
        for word in ("a", "1a", "a1", "1_0", "1,2", "1.0", "1e1", "0x1", "one", "~", "!", "(1)", "'1'"):
            self.parts_refused(word, 0)
            self.parts_refused("1 2 " + word, 2)

    def test_each_sign_but_figures(self):
        for sign in [chr(code) for code in range(33, 127)] + ["\n"]:
            if sign not in "0123456789":
                self.parts_refused("5 " + sign, 1)
                self.parts_refused("5 1" + sign + "1 6", 1)

    def test_a_word_there_already(self):
        self.parts_refused("1 1", 1)
        self.parts_refused("3 2 3", 2)
        self.parts_refused("3 2 5 2 3", 3)
        self.same_numbers(read_parts("1 11 2 12"), (1, 2, 11, 12))

    def test_the_first_refused_word_is_kept(self):
        self.parts_refused("1 1 0", 1)
        self.parts_refused("1 0 1", 1)
        self.parts_refused("x 1 1", 0)
        self.parts_refused("4  4", 1)
        self.parts_refused("4 x x", 1)

    def test_great_numbers_and_a_thirteenth_are_no_refused_words(self):
        self.parts_refused("41 0", 1)
        self.parts_refused("999 41 41", 2)
        self.parts_refused(numbers_shown(range(1, 14)) + " 0", 13)
        self.parts_refused(numbers_shown(range(1, 14)) + " 13", 13)

    def test_somewhat_more_raises_no_error(self):
        self.same_numbers(read_parts("50 41"), (41, 50))
        self.same_numbers(read_parts(numbers_shown(range(13, 0, -1))), tuple(range(1, 14)))

    def test_texts_of_1200_signs(self):
        for text, place in (
            ("0" * 1200, 0),
            (" " * 1200, 0),
            ("1 " * 600, 1),
            ("9" * 1198 + " 0", 1),
            ("3 " + "4" * 1196 + " 3", 2),
            ("1" * 1199 + "x", 0),
        ):
            self.assertEqual(len(text), 1200)
            self.parts_refused(text, place)

    def test_asked_again_is_answered_the_same(self):
        for again in range(2):
            self.same_numbers(read_parts("5 1 3"), (1, 3, 5))
            self.parts_refused("5 1 5", 2)


class RowsRead(Texts):
    def test_shown_and_read_again(self):
        for parts in ((1,), (1, 2), (2, 3, 7), (1, 4, 10)):
            for number in range(13):
                for row in all_rows(parts, number):
                    self.same_numbers(read_row(parts, numbers_shown(row)), row)

    def test_in_the_order_of_the_text(self):
        self.same_numbers(read_row((1, 2, 10), "10 1 2 2 1 10"), (10, 1, 2, 2, 1, 10))

    def test_a_text_without_signs(self):
        self.same_numbers(read_row((1, 2), ""), ())

    def test_a_number_that_is_none_of_the_parts(self):
        self.row_refused((2, 5), "1", 0)
        self.row_refused((2, 5), "2 5 3 2", 2)
        self.row_refused((2, 5), "25", 0)
        self.row_refused((2, 5), "2 2 2 41", 3)
        self.row_refused((2, 5), "5 0", 1)
        self.row_refused((12,), "1 2", 0)

    def test_noughts_and_signs_ahead(self):
        self.row_refused((1, 2), "01", 0)
        self.row_refused((1, 2), "1 002", 1)
        self.row_refused((1, 2), "1 2 +1", 2)
        self.row_refused((1, 2), "-1", 0)

    def test_blanks(self):
        self.row_refused((1, 2), " ", 0)
        self.row_refused((1, 2), " 1", 0)
        self.row_refused((1, 2), "1 ", 1)
        self.row_refused((1, 2), "1  2", 1)
        self.row_refused((1, 2), "1 2 1  2 ", 3)

    def test_line_ends(self):
        self.row_refused((1, 2), "\n", 0)
        self.row_refused((1, 2), "1\n", 0)
        self.row_refused((1, 2), "1 1\n2", 1)
        self.row_refused((1, 2), "1 2 \n", 2)

    def test_other_words(self):
        for word in ("a", "1a", "1_0", "1.0", "(1)", "~", "x" * 30):
            self.row_refused((1, 10), word, 0)
            self.row_refused((1, 10), "1 10 1 " + word + " y", 3)

    def test_texts_of_1200_signs(self):
        text = "1 " * 599 + "40"
        self.assertEqual(len(text), 1200)
        self.same_numbers(read_row((1, 40), text), (1,) * 599 + (40,))
        self.row_refused((1,), text, 599)
        self.row_refused((1, 40), "1 " * 600, 600)
        self.row_refused((1, 40), "1" * 1200, 0)

    def test_asked_again_is_answered_the_same(self):
        for again in range(2):
            self.same_numbers(read_row((1, 3), "3 1 3"), (3, 1, 3))
            self.row_refused((1, 3), "3 1 5", 2)
            self.same_numbers(read_row((1, 5), "5 1 5"), (5, 1, 5))


class Looker(unittest.TestCase):
    def looked(self, parts, number, thing, wanted):
        self.assertIs(is_row(parts, number, thing), wanted, (parts, number, thing))

    def test_held_against_all_rows(self):
        things = [thing for many in range(5) for thing in product(range(-1, 5), repeat=many)]
        for parts in ((1,), (2,), (1, 3), (2, 3), (1, 2, 4)):
            for number in range(7):
                rows = set(all_rows(parts, number))
                for thing in things:
                    self.looked(parts, number, thing, thing in rows)

    def test_the_row_of_none(self):
        self.looked((1, 2), 0, (), True)
        self.looked((1, 2), 1, (), False)
        self.looked((3,), 300, (), False)

    def test_a_number_that_is_no_part(self):
        self.looked((2, 5), 8, (2, 6), False)
        self.looked((2, 5), 7, (2, 5), True)
        self.looked((2, 5), 7, (5, 2), True)
        self.looked((2, 5), 8, (2, 5), False)
        self.looked((2, 5), 6, (2, 5), False)

    def test_nought_and_below(self):
        self.looked((2, 5), 7, (2, 0, 5), False)
        self.looked((2, 5), 0, (0,), False)
        self.looked((2, 5), 5, (2, 5, -2), False)
        self.looked((2, 5), 0, (2, -2), False)

    def test_very_great_numbers(self):
        great = 10 ** 5000
        self.looked((1, 2), 3, (great,), False)
        self.looked((1, 2), 3, (great, -great, 1, 2), False)
        self.looked((1, 2), 3, (1, 2, great), False)

    def test_rows_of_300_parts(self):
        self.looked((1,), 300, (1,) * 300, True)
        self.looked((1,), 299, (1,) * 300, False)
        self.looked((1, 2), 300, (1,) * 299 + (2,), False)
        self.looked((1, 2), 300, (1,) * 298 + (2,), True)
        self.looked((1, 2), 300, (1,) * 297 + (3,), False)
        self.looked(TWELVE, 300, (29, 31) * 5, True)

    def test_a_tuple_of_any_size(self):
        self.looked((1, 2), 300, (1, 2) * 50000, False)

    def test_asked_again_is_answered_the_same(self):
        for again in range(2):
            self.looked((1, 2), 3, (1, 2), True)
            self.looked((1, 2), 4, (1, 2), False)
            self.looked((1, 3), 3, (1, 2), False)


if __name__ == "__main__":
    unittest.main()
