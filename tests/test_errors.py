import unittest

from toldparts import errors
from toldparts.errors import NoAsk, NoParts, NoPlace, NoRow, NoShares, PartError

OF_A_TEXT = (NoShares, NoPlace, NoAsk)
OF_A_PLACE = (NoParts, NoRow)
REFUSALS = OF_A_TEXT + OF_A_PLACE


class Classes(unittest.TestCase):
    def test_any_refusal_is_a_value_error(self):
        self.assertEqual(PartError.__bases__, (ValueError,))

    def test_each_refusal_stands_under_part_error(self):
        for refusal in REFUSALS:
            self.assertTrue(issubclass(refusal, PartError), refusal)

    def test_none_stands_under_another_one(self):
        for refusal in REFUSALS:
            for other in REFUSALS:
                if refusal is not other:
                    self.assertFalse(issubclass(refusal, other), (refusal, other))

    def test_they_are_six_with_their_own_names(self):
        for name in ("PartError", "NoShares", "NoPlace", "NoAsk", "NoParts", "NoRow"):
            self.assertEqual(getattr(errors, name).__name__, name)


class Made(unittest.TestCase):
    def test_of_a_text_that_str_tells(self):
        for refusal in OF_A_TEXT + (PartError,):
            for text in ("no such thing", "", "two\nlines", "1/2"):
                self.assertEqual(str(refusal(text)), text)

    def test_of_a_place_that_is_kept(self):
        for refusal in OF_A_PLACE:
            for place in (0, 1, 599, 10 ** 100):
                made = refusal(place)
                self.assertEqual(made.place, place)
                self.assertIs(type(made.place), int)
                self.assertIs(type(str(made)), str)

    def test_a_place_is_needed(self):
        for refusal in OF_A_PLACE:
            with self.assertRaises(TypeError):
                refusal()

    def test_places_are_kept_apart(self):
        first, second = NoParts(3), NoParts(4)
        self.assertEqual((first.place, second.place), (3, 4))

    def test_raised_and_caught(self):
        for refusal in REFUSALS:
            made = refusal(2) if refusal in OF_A_PLACE else refusal("why")
            for caught in (refusal, PartError, ValueError):
                with self.assertRaises(caught) as held:
                    raise made
                self.assertIs(held.exception, made)


if __name__ == "__main__":
    unittest.main()
