import inspect
import random
import unittest

from tests.helper import Held, all_rows
from toldparts.counts.near import count_rows
from toldparts.counts.none import none_to
from toldparts.errors import NoParts
from toldparts.kept import KeptParts

TWELVE = (1, 2, 3, 5, 8, 13, 21, 34, 37, 38, 39, 40)


def kept_of(parts):
    kept = KeptParts()
    for part in parts:
        kept.put_part(part)
    return kept


class Keeping(Held):
    def refused(self, asked, part):
        with self.assertRaises(NoParts) as held:
            asked(part)
        self.assertIs(type(held.exception), NoParts)
        self.assertEqual(held.exception.place, 0)
        self.assertIs(type(held.exception.place), int)

    def told(self, kept, numbers=range(12)):
        return kept.parts_now(), [(kept.count_now(number), kept.none_now(number)) for number in numbers]


class Interface(Held):
    def test_names_and_arguments(self):
        wanted = {
            "put_part": "part", "take_part": "part", "parts_now": "", "count_now": "number", "none_now": "number",
        }
        for name, arguments in wanted.items():
            self.assertIn(name, vars(KeptParts))
            told = inspect.signature(getattr(KeptParts, name)).parameters
            self.assertEqual(list(told)[1:], arguments.split(), name)
        self.assertEqual(list(inspect.signature(KeptParts).parameters), [])

    def test_kinds(self):
        kept = KeptParts()
        for part in (None, 3, 5):
            if part:
                self.assertIsNone(kept.put_part(part))
            self.assertIs(type(kept.parts_now()), tuple)
            self.is_plain(kept.parts_now())
            for number in (0, 1, 8):
                self.assertIs(type(kept.count_now(number)), int)
                self.assertIs(type(kept.none_now(number)), tuple)
                self.is_plain(kept.none_now(number))
        self.assertIsNone(kept.take_part(3))


class OfNone(Keeping):
    def none_kept(self, kept):
        self.assertEqual(kept.parts_now(), ())
        self.assertEqual(kept.count_now(0), 1)
        for number in (1, 2, 40, 300):
            self.assertEqual(kept.count_now(number), 0)
            self.assertEqual(kept.none_now(number), tuple(range(1, number + 1)))
        self.assertEqual(kept.none_now(0), ())

    def test_at_the_beginning(self):
        self.none_kept(KeptParts())

    def test_behind_comings_and_goings(self):
        kept = kept_of((4, 2))
        kept.take_part(2)
        kept.take_part(4)
        self.none_kept(kept)

    def test_nothing_to_take(self):
        kept = KeptParts()
        for part in (-1, 0, 1, 40, 41, 10 ** 100):
            self.refused(kept.take_part, part)
            self.none_kept(kept)


class PutAndTaken(Keeping):
    def test_parts_rise_in_whatever_order_they_came(self):
        self.assertEqual(kept_of((40, 1, 7, 39, 2)).parts_now(), (1, 2, 7, 39, 40))

    def test_counts_and_numbers_of_the_parts_now(self):
        kept = kept_of((3, 5))
        self.assertEqual(kept.count_now(8), 2)
        self.assertEqual(kept.none_now(8), (1, 2, 4, 7))
        kept.put_part(1)
        self.assertEqual(kept.count_now(4), 3)
        self.assertEqual(kept.none_now(8), ())
        kept.take_part(3)
        self.assertEqual(kept.count_now(8), 5)
        kept.take_part(1)
        self.assertEqual(kept.parts_now(), (5,))
        self.assertEqual(kept.none_now(6), (1, 2, 3, 4, 6))

    def test_put_refused_and_nothing_changed(self):
        for parts in ((), (1,), (40,), (3, 5), TWELVE):
            kept = kept_of(parts)
            first = self.told(kept)
            for part in parts + (0, -1, -40, -10 ** 100):
                self.refused(kept.put_part, part)
                self.assertEqual(self.told(kept), first)

    def test_take_refused_and_nothing_changed(self):
        for parts in ((), (1,), (40,), (3, 5), TWELVE):
            kept = kept_of(parts)
            first = self.told(kept)
            for part in range(-1, 43):
                if part not in parts:
                    self.refused(kept.take_part, part)
            self.refused(kept.take_part, 10 ** 100)
            self.assertEqual(self.told(kept), first)

    def test_taken_twice_and_put_again(self):
        kept = kept_of((3, 5))
        kept.take_part(3)
        self.refused(kept.take_part, 3)
        kept.put_part(3)
        self.refused(kept.put_part, 3)
        self.assertEqual(kept.parts_now(), (3, 5))

    def test_twelve_parts_to_300(self):
        for parts in (TWELVE, tuple(range(29, 41))):
            kept = kept_of(reversed(parts))
            self.assertEqual(kept.parts_now(), parts)
            for number in (0, 28, 299, 300):
                self.assertEqual(kept.count_now(number), count_rows(parts, number))
                self.assertEqual(kept.none_now(number), none_to(parts, number))

    def test_somewhat_more_raises_no_error(self):
        kept = kept_of(tuple(range(1, 13)) + (41, 45))
        self.assertEqual(len(kept.parts_now()), 14)
        self.assertEqual(kept.count_now(320), count_rows(kept.parts_now(), 320))


class ComingsAndGoings(Keeping):
    def test_held_against_ones_made_afresh(self):
        for seed in range(6):
            drawn = random.Random(seed)
            greatest = (4, 9, 13, 20, 40, 40)[seed]
            kept, parts = KeptParts(), []
            for step in range(450):
                part = drawn.randint(-1, greatest + 1)
                if drawn.random() < 0.6:
                    if part in parts or part < 1:
                        self.refused(kept.put_part, part)
                    elif len(parts) < 12:
                        kept.put_part(part)
                        parts.append(part)
                elif part in parts:
                    kept.take_part(part)
                    parts.remove(part)
                else:
                    self.refused(kept.take_part, part)
                self.assertEqual(kept.parts_now(), tuple(sorted(parts)))
                if step % 15 == 0 or step > 440:
                    self.assertEqual(self.told(kept), self.told(kept_of(parts)))
                    self.assertEqual(kept.count_now(9), len(all_rows(kept.parts_now(), 9)))
            self.assertEqual(self.told(kept, (299, 300)), self.told(kept_of(parts), (299, 300)))

    def test_two_beside_each_other(self):
        one, other = KeptParts(), KeptParts()
        one.put_part(2)
        self.assertEqual(other.parts_now(), ())
        other.put_part(3)
        other.put_part(2)
        one.take_part(2)
        self.assertEqual((one.parts_now(), other.parts_now()), ((), (2, 3)))


class Told(Keeping):
    def test_what_was_told_stays(self):
        kept = kept_of((3, 5))
        parts, numbers = kept.parts_now(), kept.none_now(8)
        kept.put_part(1)
        kept.take_part(5)
        kept.none_now(8)
        self.assertEqual((parts, numbers), ((3, 5), (1, 2, 4, 7)))

    def test_asked_again_is_answered_the_same(self):
        kept = kept_of((3, 5, 7))
        first = self.told(kept)
        self.assertEqual(self.told(kept), first)
        # Put in and taken out again, so the same is asked of the same.
        kept.put_part(1)
        kept.take_part(1)
        self.assertEqual(self.told(kept), first)


if __name__ == "__main__":
    unittest.main()
