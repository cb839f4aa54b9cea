import inspect
import random
import re
import unittest
from collections import Counter
from fractions import Fraction
from functools import lru_cache

from tests.helper import Held, all_rows, rest_by_matrix, rests_one_by_one, turns
from toldparts.counts.bounds import count_apart, count_with
from toldparts.counts.near import count_rows
from toldparts.counts.none import fewest, none_to
from toldparts.errors import NoAsk, NoParts, NoPlace, NoRow, PartError
from toldparts.rows.ordered import nth_row, place_of
from toldparts.rows.rings import count_rings, least_turn
from toldparts.shares.averages import averages
from toldparts.whole import Desk, figures_shown

TWELVE = (1, 2, 3, 5, 8, 13, 21, 34, 37, 38, 39, 40)
GREAT = 10 ** 18

# The first word of each line, and how many numbers stand behind it.
NUMBERS_BEHIND = {
    "put": 1, "take": 1, "parts": 0, "count": 1, "far": 2, "nth": 2, "with": 2, "apart": 1, "rings": 1,
    "average": 1, "few": 1, "none": 1,
}
PARTS_DRAWN = (0, 1, 2, 3, 4, 5, 6, 7, 8, 9, 11, 20, 38, 39, 40)
OF_A_NUMBER = ("count", "apart", "rings", "average", "few", "none")

rows_of = lru_cache(maxsize=None)(all_rows)


def desk_of(parts):
    desk = Desk()
    for part in parts:
        desk.ask(f"put {part}")
    return desk


def told(desk, line):
    """What a line tells, or its refusal."""
    try:
        return desk.ask(line)
    except PartError as refusal:
        return type(refusal), getattr(refusal, "place", None)


class SlowDesk:
    """A desk that goes through all rows, for small numbers, and far through all numbers below."""

    def __init__(self):
        self.kept = ()

    def ask(self, line):
        behind = re.fullmatch(r"(place|least) ((?:.|\n)*)", line)
        if behind:
            return self.row_asked(*behind.groups())
        if not re.fullmatch(r"[a-z]+( (0|[1-9][0-9]*))*", line):
            raise NoAsk("signs")
        word, *numbers = line.split(" ")
        if NUMBERS_BEHIND.get(word) != len(numbers):
            raise NoAsk("words")
        numbers = [int(number) for number in numbers]
        self.bounded(word, *numbers)
        return getattr(self, word + "_asked")(*numbers)

    def bounded(self, word, first=0, second=0):
        most = {"put": 40, "take": 40, "far": GREAT}.get(word, 300)
        if first > most or len(str(second)) > 100:
            raise NoAsk("too great")
        if word == "far" and not 1 <= second <= 10 ** 9 or word == "rings" and first == 0:
            raise NoAsk("bounds")
        if word == "put" and len(self.kept) == 12:
            raise NoAsk("twelve")

    def put_asked(self, part):
        if part == 0 or part in self.kept:
            raise NoParts(0)
        self.kept = tuple(sorted(self.kept + (part,)))
        return []

    def take_asked(self, part):
        if part not in self.kept:
            raise NoParts(0)
        self.kept = tuple(sorted(set(self.kept) - {part}))
        return []

    def parts_asked(self):
        return [self.row_shown(self.kept)] if self.kept else []

    def row_shown(self, row):
        return " ".join(map(str, row))

    def row_asked(self, word, text):
        words = text.split(" ") if text else []
        for place, one in enumerate(words):
            if one not in map(str, self.kept):
                raise NoRow(place)
        row = tuple(map(int, words))
        if word == "place":
            return [str(rows_of(self.kept, sum(row)).index(row))]
        if row == ():
            raise NoRow(0)
        return [self.row_shown(min(turns(row)))]

    def rows(self, number):
        return rows_of(self.kept, number)

    def count_asked(self, number):
        return [str(len(self.rows(number)))]

    def far_asked(self, number, divisor):
        return [str(rests_one_by_one(self.kept, number, divisor))]

    def nth_asked(self, number, place):
        rows = self.rows(number)
        if place >= len(rows):
            raise NoPlace("no such place")
        return [self.row_shown(sorted(rows)[place])]

    def with_asked(self, number, many):
        return [str(sum(len(row) == many for row in self.rows(number)))]

    def apart_asked(self, number):
        return [str(sum(all(one != other for one, other in zip(row, row[1:])) for row in self.rows(number)))]

    def rings_asked(self, number):
        return [str(len({min(turns(row)) for row in self.rows(number)}))]

    def average_asked(self, number):
        rows = self.rows(number)
        # Fraction's own text is A/B, or A where B is 1.
        return [str(Fraction(sum(map(len, rows)), len(rows)))] if rows else ["none"]

    def few_asked(self, number):
        rows = self.rows(number)
        return [self.row_shown(min(rows, key=lambda row: (len(row), row)))] if rows else ["none"]

    def none_asked(self, number):
        missing = [one for one in range(1, number + 1) if not self.rows(one)]
        return [self.row_shown(missing)] if missing else []


class Asking(Held):
    def tells(self, desk, line, *texts):
        answer = desk.ask(line)
        self.assertIs(type(answer), list)
        self.assertEqual(answer, list(texts), line)
        for text in answer:
            self.assertIs(type(text), str)

    def refuses(self, desk, line, refusal, place=None):
        kept = desk.ask("parts")
        with self.assertRaises(PartError, msg=repr(line)) as held:
            desk.ask(line)
        self.assertIs(type(held.exception), refusal, repr(line))
        if place is not None:
            self.assertEqual(held.exception.place, place, repr(line))
            self.assertIs(type(held.exception.place), int)
        self.assertEqual(desk.ask("parts"), kept, repr(line))


class Interface(Held):
    def test_names_and_arguments(self):
        self.assertIn("ask", vars(Desk))
        self.assertEqual(list(inspect.signature(Desk.ask).parameters)[1:], ["line"])
        self.assertEqual(list(inspect.signature(Desk).parameters), [])


class Lines(Asking):
    def test_put_and_take_tell_nothing(self):
        desk = Desk()
        self.tells(desk, "put 3")
        self.tells(desk, "put 40")
        self.tells(desk, "put 1")
        self.tells(desk, "parts", "1 3 40")
        self.tells(desk, "take 3")
        self.tells(desk, "parts", "1 40")
        self.tells(desk, "take 40")
        self.tells(desk, "take 1")
        self.tells(desk, "parts")

    def test_counts(self):
        desk = desk_of((1, 2))
        self.tells(desk, "count 0", "1")
        self.tells(desk, "count 4", "5")
        self.tells(desk, "far 4 3", "2")
        self.tells(desk, "far 0 1", "0")
        self.tells(desk, "far 1000000000000000000 1000000000", str(rest_by_matrix((1, 2), GREAT, 10 ** 9)))
        self.tells(desk, "with 4 3", "3")
        self.tells(desk, "with 4 0", "0")
        self.tells(desk, "with 0 0", "1")
        self.tells(desk, "with 4 " + "9" * 100, "0")
        self.tells(desk, "apart 4", "1")
        self.tells(desk, "apart 0", "1")
        self.tells(desk, "rings 4", "3")

    def test_rows(self):
        desk = desk_of((1, 2))
        self.tells(desk, "nth 4 1", "1 1 2")
        self.tells(desk, "nth 0 0", "")
        self.tells(desk, "place 1 2 1", "2")
        self.tells(desk, "place ", "0")
        self.tells(desk, "least 2 1 2 1", "1 2 1 2")
        self.tells(desk, "few 5", "1 2 2")
        self.tells(desk, "few 0", "")

    def test_averages(self):
        desk = desk_of((1, 2))
        self.tells(desk, "average 2", "3/2")
        self.tells(desk, "average 4", "3")
        self.tells(desk, "average 0", "0")
        desk.ask("take 1")
        self.tells(desk, "average 3", "none")
        self.tells(desk, "few 3", "none")

    def test_numbers_without_a_row(self):
        desk = desk_of((3, 5))
        self.tells(desk, "none 8", "1 2 4 7")
        self.tells(desk, "none 2", "1 2")
        self.tells(desk, "none 0")
        desk.ask("put 1")
        self.tells(desk, "none 300")

    def test_of_no_parts(self):
        for desk in (Desk(), desk_of((7,))):
            if desk.ask("parts"):
                desk.ask("take 7")
            self.tells(desk, "parts")
            for number in (0, 1, 5, 40, 300):
                one = "1" if number == 0 else "0"
                self.tells(desk, f"count {number}", one)
                self.tells(desk, f"far {number} 7", one)
                self.tells(desk, f"far {number} 1", "0")
                self.tells(desk, f"with {number} 0", one)
                self.tells(desk, f"with {number} 1", "0")
                self.tells(desk, f"apart {number}", one)
                self.tells(desk, f"average {number}", "none" if number else "0")
                self.tells(desk, f"few {number}", "none" if number else "")
                self.tells(desk, f"none {number}", *[" ".join(map(str, range(1, number + 1)))][:number])
                if number:
                    self.tells(desk, f"rings {number}", "0")
                    self.refuses(desk, f"nth {number} 0", NoPlace)
            self.tells(desk, "nth 0 0", "")
            self.refuses(desk, "nth 0 1", NoPlace)
            self.tells(desk, "far 1000000000000000000 1000000000", "0")
            self.tells(desk, "place ", "0")
            self.refuses(desk, "least ", NoRow, 0)
            for text in ("1", "0", "1 2", " ", "x", "7"):
                self.refuses(desk, "place " + text, NoRow, 0)
                self.refuses(desk, "least " + text, NoRow, 0)
            for part in (0, 1, 40):
                self.refuses(desk, f"take {part}", NoParts, 0)


class Refused(Asking):
    def desks(self):
        return Desk(), desk_of((2,)), desk_of((1, 3, 40)), desk_of(TWELVE)

    def test_other_lines(self):
        for desk in self.desks():
            for line in (
                "", " ", "\n", "place", "least", "Put 5", "PARTS", "putt 5", "pu 5", "put5", "5", "5 put", "nothing",
                "places 1", "leastest 1", "place\n1", "least\n", " parts", "parts ", "parts 1", "parts\n", "\nparts",
                " place 1", " least 1", "\nplace ", "counts 5", "fewest 5", "~", "none", "none ",
                "x" * 1200, " " * 1200,
            ):
                self.refuses(desk, line, NoAsk)

    def test_words_too_many_or_too_few(self):
        for desk in self.desks():
            for word, many in NUMBERS_BEHIND.items():
                for wrong in range(5):
                    if wrong != many:
                        self.refuses(desk, " ".join([word] + ["6"] * wrong), NoAsk)

    def test_blanks_and_signs_put_in(self):
        for desk in self.desks():
            for word, many in NUMBERS_BEHIND.items():
                line = " ".join([word] + ["6"] * many)
                for at in range(len(line) + 1):
                    for sign in " \nx+-_.,/~":
                        self.refuses(desk, line[:at] + sign + line[at:], NoAsk)

    def test_numbers_that_are_none(self):
        for desk in self.desks():
            for word, many in NUMBERS_BEHIND.items():
                for at in range(many):
                    for wrong in (
                        "", "00", "01", "007", "+1", "-1", "1.0", "1e1", "1_0", "0x1", "one", "1\n", "\n1", "(1)", "~",
                        "-0", "0 ",
                    ):
                        numbers = ["6"] * many
                        numbers[at] = wrong
                        self.refuses(desk, " ".join([word] + numbers), NoAsk)

    def test_each_sign_but_figures(self):
        desk = desk_of((1, 3))
        for code in list(range(32, 127)) + [10]:
            if chr(code) not in "0123456789%":
                self.refuses(desk, "count " + chr(code), NoAsk)
                self.refuses(desk, "count 1" + chr(code), NoAsk)
                self.refuses(desk, "take 3" + chr(code) + "1", NoAsk)

    def test_numbers_above_what_a_line_lets(self):
        for desk in self.desks():
            for great in ("301", "999", "1000", "1" + "0" * 100, "9" * 1100):
                for word in OF_A_NUMBER:
                    self.refuses(desk, f"{word} {great}", NoAsk)
                self.refuses(desk, f"nth {great} 0", NoAsk)
                self.refuses(desk, f"with {great} 0", NoAsk)
            for great in ("41", "100", "9" * 1100):
                self.refuses(desk, "put " + great, NoAsk)
                self.refuses(desk, "take " + great, NoAsk)
            for great in (str(GREAT + 1), "9" * 19, "9" * 1100):
                self.refuses(desk, f"far {great} 5", NoAsk)
            for divisor in ("0", "1000000001", "9" * 10, "9" * 1100):
                self.refuses(desk, "far 5 " + divisor, NoAsk)
            for great in ("1" + "0" * 100, "9" * 101, "1" * 1100):
                self.refuses(desk, "nth 5 " + great, NoAsk)
                self.refuses(desk, "with 5 " + great, NoAsk)
            self.refuses(desk, "rings 0", NoAsk)

    def test_the_greatest_that_a_line_lets(self):
        for desk in self.desks():
            for word in OF_A_NUMBER:
                self.assertLessEqual(len(desk.ask(f"{word} 300")), 1)
            self.refuses(desk, "nth 300 " + "9" * 100, NoPlace)
            self.tells(desk, "with 300 " + "9" * 100, "0")
            self.assertEqual(len(desk.ask(f"far {GREAT} {10 ** 9}")), 1)
        self.tells(Desk(), "put 40")
        self.tells(desk_of((40,)), "take 40")

    def test_parts_that_are_there_or_are_not(self):
        desk = desk_of((3, 5))
        for part in (3, 5, 0):
            self.refuses(desk, f"put {part}", NoParts, 0)
        for part in (0, 1, 4, 40):
            self.refuses(desk, f"take {part}", NoParts, 0)

    def test_a_thirteenth_part(self):
        desk = desk_of(TWELVE)
        for part in list(range(42)) + ["x", "", "01"]:
            self.refuses(desk, f"put {part}", NoAsk)
        for part in (0, 4, 6, 36):
            self.refuses(desk, f"take {part}", NoParts, 0)
        self.tells(desk, "take 40")
        self.refuses(desk, "put 0", NoParts, 0)
        self.refuses(desk, "put 39", NoParts, 0)
        self.refuses(desk, "put 41", NoAsk)
        self.tells(desk, "put 4")
        self.refuses(desk, "put 40", NoAsk)
        self.tells(desk, "parts", "1 2 3 4 5 8 13 21 34 37 38 39")

    def test_places_where_no_row_stands(self):
        desk = desk_of((2, 3))
        self.refuses(desk, "nth 5 2", NoPlace)
        self.refuses(desk, "nth 1 0", NoPlace)
        self.refuses(desk, "nth 0 1", NoPlace)
        self.tells(desk, "nth 5 1", "3 2")

    def test_rows_spoilt_anywhere(self):
        desk = desk_of((1, 3, 40))
        row = "1 3 40 1 1 3".split(" ")
        for at in range(len(row)):
            for wrong in ("", "0", "2", "01", "+1", "-1", "41", "x", "1\n", "\n", "13", "9" * 900, "1.", "~"):
                text = " ".join(row[:at] + [wrong] + row[at + 1:])
                self.refuses(desk, "place " + text, NoRow, at)
                self.refuses(desk, "least " + text, NoRow, at)
        for text, place in ((" ", 0), ("  ", 0), (" 1", 0), ("1 ", 1), ("1  3", 1), ("1 3 x 0", 2), ("place 1", 0)):
            self.refuses(desk, "place " + text, NoRow, place)
            self.refuses(desk, "least " + text, NoRow, place)

    def test_the_row_of_none(self):
        for desk in self.desks():
            self.tells(desk, "place ", "0")
            self.refuses(desk, "least ", NoRow, 0)

    def test_rows_refused_whatever_they_come_to(self):
        desk = desk_of((1, 40))
        self.refuses(desk, "place " + "40 " * 390 + "2", NoRow, 390)
        self.refuses(desk, "least " + "40 " * 390, NoRow, 390)
        self.refuses(desk, "place " + "9" * 1194, NoRow, 0)


class AgainstSlowDesks(Asking):
    def line(self, drawn):
        word = drawn.choice(list(NUMBERS_BEHIND) + ["place", "least", "put", "put", "take"])
        if word in ("place", "least"):
            row, rest = [], 9
            while rest > 0 and drawn.random() < 0.8:
                row.append(drawn.randint(1, 4))
                rest -= row[-1]
            return " ".join([word] + list(map(str, row or [""])))
        if word in ("put", "take"):
            return f"{word} {drawn.choice(PARTS_DRAWN)}"
        numbers = [drawn.randint(0, 9) for behind in range(NUMBERS_BEHIND[word])]
        if word == "far" and drawn.random() < 0.2:
            numbers = [drawn.randint(0, 10 ** drawn.randint(1, 3)), drawn.randint(1, 10 ** 9)]
        return " ".join([word] + list(map(str, numbers)))

    def spoilt(self, drawn, line):
        at = drawn.randint(0, len(line))
        if drawn.random() < 0.5:
            return line[:at] + drawn.choice(" 0 1\nx-") + line[at:]
        return line[:at] + line[at + 1:]

    def test_many_lines(self):
        answered = Counter()
        for seed in range(8):
            drawn = random.Random(seed)
            desk, slow = Desk(), SlowDesk()
            moves = 0
            while moves < 450:
                line = self.line(drawn)
                if drawn.random() < 0.25:
                    line = self.spoilt(drawn, line)
                moves += line[:4] in ("put ", "take")
                if re.fullmatch(r"(count|nth|with|apart|rings|average|few|none) [1-9][0-9]+( [0-9]+)?", line):
                    # Too great to go through all rows.
                    continue
                answer = told(desk, line)
                self.assertEqual(answer, told(slow, line), (slow.kept, line))
                answered[line.partition(" ")[0], type(answer) is list] += 1
                answered[len(slow.kept)] += 1
        for word in set(NUMBERS_BEHIND) | {"place", "least"}:
            self.assertGreater(answered[word, True], 20, word)
            self.assertGreater(answered[word, False], 4, word)
        for many in range(13):
            self.assertGreater(answered[many], 20, many)

    def test_each_line_of_small_parts(self):
        for parts in ((1,), (2,), (1, 2), (2, 3), (4, 6), (1, 2, 3), (3, 5, 7)):
            desk, slow = desk_of(parts), SlowDesk()
            slow.kept = parts
            for number in range(9):
                lines = [f"{word} {number}" for word in OF_A_NUMBER]
                lines += [f"{word} {number} {more}" for word in ("far", "nth", "with") for more in range(7)]
                for row in rows_of(parts, number):
                    lines += [f"place {slow.row_shown(row)}", f"least {slow.row_shown(row)}"]
                for line in lines:
                    self.assertEqual(told(desk, line), told(slow, line), (parts, line))


class ToTheLimits(Asking):
    def test_held_against_the_functions(self):
        for parts in (TWELVE, tuple(range(1, 13)), tuple(range(29, 41)), (40,), (1,)):
            desk = desk_of(reversed(parts))
            self.tells(desk, "parts", " ".join(map(str, parts)))
            for number in (240, 299, 300):
                count = count_rows(parts, number)
                self.tells(desk, f"count {number}", str(count))
                self.tells(desk, f"far {number} {10 ** 9}", str(count % 10 ** 9))
                self.tells(desk, f"apart {number}", str(count_apart(parts, number)))
                self.tells(desk, f"rings {number}", str(count_rings(parts, number)))
                self.tells(desk, f"with {number} 12", str(count_with(parts, number, 12)))
                average = averages(parts, number)
                self.tells(desk, f"average {number}", str(Fraction(*average[0])) if average else "none")
                row = fewest(parts, number)
                self.tells(desk, f"few {number}", " ".join(map(str, row[1])) if row else "none")
                missing = none_to(parts, number)
                self.tells(desk, f"none {number}", *[" ".join(map(str, missing))][:len(missing)])
                if count:
                    for place in (0, count // 2, count - 1):
                        row = nth_row(parts, number, place)
                        shown = " ".join(map(str, row))
                        self.tells(desk, f"nth {number} {place}", shown)
                        self.tells(desk, f"place {shown}", str(place))
                        self.tells(desk, f"least {shown}", " ".join(map(str, least_turn(parts, row))))
                self.refuses(desk, f"nth {number} {count}", NoPlace)

    def test_far_held_against_matrices(self):
        for parts in (tuple(range(1, 13)), (7, 11)):
            desk = desk_of(parts)
            for number in (GREAT, GREAT - 1):
                wanted = str(rest_by_matrix(parts, number, 999999937))
                self.tells(desk, f"far {number} 999999937", wanted)

    def test_rows_of_1200_signs(self):
        desk = desk_of(tuple(range(1, 12)) + (40,))
        row = (40,) * 397 + (1,)
        line = "least " + " ".join(map(str, row))
        self.assertLessEqual(len(line), 1200)
        self.tells(desk, line, " ".join(map(str, row[-1:] + row[:-1])))
        place = place_of(tuple(range(1, 12)) + (40,), row)
        answer = desk.ask("place " + " ".join(map(str, row)))
        self.assertEqual(len(answer), 1)
        self.assertGreater(len(answer[0]), 4300)
        # Read by hand, as int itself reads no number so long.
        read = 0
        for figure in answer[0]:
            read = read * 10 + int(figure)
        self.assertEqual(read, place)

    def test_great_numbers_in_figures(self):
        for number in (0, 1, 9, 10 ** 63, 10 ** 64 - 1, 10 ** 64, 10 ** 64 + 7, 10 ** 128, 10 ** 200 + 10 ** 70 + 3):
            self.assertEqual(figures_shown(number), str(number))


class ManyDesks(Asking):
    def test_two_beside_each_other(self):
        one, other = Desk(), Desk()
        one.ask("put 2")
        self.tells(other, "parts")
        other.ask("put 3")
        self.tells(one, "parts", "2")
        self.tells(other, "parts", "3")
        self.tells(one, "count 3", "0")
        self.tells(other, "count 3", "1")
        other.ask("put 2")
        one.ask("take 2")
        self.tells(one, "count 0", "1")
        self.tells(other, "parts", "2 3")

    def test_behind_450_puts_and_takes_as_one_made_afresh(self):
        drawn = random.Random(7)
        desk, parts, moves = Desk(), [], 0
        while moves < 450:
            part = drawn.randint(1, 40)
            if part in parts:
                desk.ask(f"take {part}")
                parts.remove(part)
            elif len(parts) < 12:
                desk.ask(f"put {part}")
                parts.append(part)
            else:
                part = drawn.choice(parts)
                desk.ask(f"take {part}")
                parts.remove(part)
            moves += 1
            if moves % 30 == 0:
                afresh = desk_of(parts)
                for line in ("parts", "count 300", "none 300", "few 299", "average 120", "apart 300", "rings 77"):
                    self.assertEqual(desk.ask(line), afresh.ask(line), (parts, line))


class Told(Asking):
    LINES = (
        "parts", "count 9", "far 9 7", "nth 8 1", "place 3 3", "with 8 2", "apart 8", "rings 8", "least 5 3",
        "average 8", "few 8", "none 9",
    )

    def test_a_told_list_that_is_changed_changes_nothing(self):
        desk = desk_of((3, 5))
        for line in self.LINES:
            answer = desk.ask(line)
            wanted = list(answer)
            answer.append("more")
            answer[0] = "other"
            self.tells(desk, line, *wanted)
        desk.ask("put 4").append("more")
        self.tells(desk, "take 4")
        desk.ask("put 1").append("more")
        self.tells(desk, "take 1")
        self.tells(desk, "parts", "3 5")
        desk.ask("none 0").append("more")
        self.tells(desk, "none 0")

    def test_what_was_told_stays(self):
        desk = desk_of((3, 5))
        answers = [desk.ask(line) for line in ("parts", "none 9", "few 8")]
        desk.ask("put 1")
        desk.ask("take 5")
        desk.ask("parts")
        self.assertEqual(answers, [["3 5"], ["1 2 4 7"], ["3 5"]])

    def test_asked_again_is_answered_the_same(self):
        desk = desk_of((3, 5))
        for line in self.LINES + ("place 4", "nth 9 99", "put 0", "take 9", "what", "least ", "count 301"):
            self.assertEqual(told(desk, line), told(desk, line), line)


if __name__ == "__main__":
    unittest.main()
