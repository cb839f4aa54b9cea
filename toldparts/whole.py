"""The desk: kept parts that are asked by lines."""

from toldparts.counts.bounds import count_apart, count_with
from toldparts.counts.near import far_count
from toldparts.counts.none import fewest
from toldparts.errors import NoAsk
from toldparts.kept import KeptParts
from toldparts.rows.ordered import nth_row, place_of
from toldparts.rows.rings import count_rings, least_turn
from toldparts.rows.texts import is_part_word, numbers_shown, read_row
from toldparts.shares.averages import averages

MOST_PARTS = 12

# Python refuses to show a number of more than 4300 figures at once, so great ones are shown in pieces.
PIECE_FIGURES = 64
PIECE = 10 ** 64

# For each kind of number in a line, the least and the greatest that are let.
BOUNDS = {
    "PART": (0, 40),
    "NUMBER": (0, 300),
    "GREAT": (0, 10 ** 18),
    "AROUND": (1, 300),
    "DIVISOR": (1, 10 ** 9),
    "HUNDRED": (0, 10 ** 50 * 10 ** 50 - 1),
}

# The kinds of the numbers behind the first word of a line.
KINDS = {
    "put": ("PART",),
    "take": ("PART",),
    "parts": (),
    "count": ("NUMBER",),
    "far": ("GREAT", "DIVISOR"),
    "nth": ("NUMBER", "HUNDRED"),
    "with": ("NUMBER", "HUNDRED"),
    "apart": ("NUMBER",),
    "rings": ("AROUND",),
    "average": ("NUMBER",),
    "few": ("NUMBER",),
    "none": ("NUMBER",),
}


def figures_shown(number):
    """A number from 0 on in figures, however many."""
    behind = ""
    while number >= PIECE:
        number, rest = divmod(number, PIECE)
        behind = str(rest).zfill(PIECE_FIGURES) + behind
    return str(number) + behind


def fraction_shown(above, below):
    """The text of a fraction."""
    return str(above) if below == 1 else f"{above}/{below}"


def lines_of(numbers):
    """Numbers in one row, or no row of none."""
    return [numbers_shown(numbers)] if len(numbers) > 0 else []


def put_asked(kept, part):
    """Puts a part in."""
    if len(kept.parts_now()) >= MOST_PARTS:
        raise NoAsk("no more parts are kept")
    kept.put_part(part)
    return []


def take_asked(kept, part):
    """Takes a part out."""
    kept.take_part(part)
    return []


def parts_asked(kept):
    """The parts."""
    return lines_of(kept.parts_now())


def count_asked(kept, number):
    """How many rows come to a number."""
    return [str(kept.count_now(number))]


def far_asked(kept, number, divisor):
    """The rest by a divisor of how many rows come to a great number."""
    parts = kept.parts_now()
    # Far counts are of at least one part; of none the row of none is the only one.
    if len(parts) == 0:
        return [str((1 if number == 0 else 0) % divisor)]
    return [str(far_count(parts, number, divisor))]


def nth_asked(kept, number, place):
    """The row at a place among those that come to a number."""
    return [numbers_shown(nth_row(kept.parts_now(), number, place))]


def with_asked(kept, number, many):
    """How many rows come to a number with just so many parts."""
    return [str(count_with(kept.parts_now(), number, many))]


def apart_asked(kept, number):
    """How many rows come to a number without alike neighbours."""
    return [str(count_apart(kept.parts_now(), number))]


def rings_asked(kept, number):
    """How many rings come to a number."""
    return [str(count_rings(kept.parts_now(), number))]


def average_asked(kept, number):
    """The average of how many parts the rows have that come to a number."""
    told = averages(kept.parts_now(), number)
    if told is None:
        return ["none"]
    above, below = told[0]
    return [fraction_shown(above, below)]


def few_asked(kept, number):
    """The first row of the fewest parts that comes to a number."""
    told = fewest(kept.parts_now(), number)
    return ["none"] if told is None else [numbers_shown(told[1])]


def none_asked(kept, number):
    """The numbers to a told one that no row comes to."""
    return lines_of(kept.none_now(number))


def place_asked(parts, row):
    """The place of a row among those that come to the same number."""
    return [figures_shown(place_of(parts, row))]


def least_asked(parts, row):
    """The least of the rows that are this one begun elsewhere."""
    return [numbers_shown(least_turn(parts, row))]


# What is asked by a first word with numbers behind it, of kept parts.
NUMBER_ASKS = {
    "put": put_asked,
    "take": take_asked,
    "parts": parts_asked,
    "count": count_asked,
    "far": far_asked,
    "nth": nth_asked,
    "with": with_asked,
    "apart": apart_asked,
    "rings": rings_asked,
    "average": average_asked,
    "few": few_asked,
    "none": none_asked,
}

# What is asked by a first word with a row behind it, of parts.
ROW_ASKS = {
    "place": place_asked,
    "least": least_asked,
}


def read_number(kind, word):
    """The number that a word of a line is, or NoAsk."""
    least, greatest = BOUNDS[kind]
    if word == "0" or is_part_word(word):
        number = int(word)
        if least <= number <= greatest:
            return number
    raise NoAsk("a number is none that is let here")


def read_numbers(kinds, words):
    """The numbers that the words of a line are, or NoAsk."""
    if len(words) != len(kinds):
        raise NoAsk("too many words or too few")
    return [read_number(kind, word) for kind, word in zip(kinds, words)]


class Desk:
    """Kept parts, asked by lines."""

    def __init__(self):
        self.kept = KeptParts()

    def ask(self, line):
        """The texts that a line tells, or a refusal."""
        first, blank, behind = line.partition(" ")
        # A row may be nothing, but the blank ahead of it stands.
        if first in ROW_ASKS and blank == " ":
            return self.ask_row(first, behind)
        if first not in NUMBER_ASKS:
            raise NoAsk("no such line")
        words = behind.split(" ") if blank == " " else []
        numbers = read_numbers(KINDS[first], words)
        action = NUMBER_ASKS[first]
        return action(self.kept, *numbers)

    def ask_row(self, first, text):
        """What a line with a row behind its first word tells, or NoRow."""
        parts = self.kept.parts_now()
        row = read_row(parts, text)
        action = ROW_ASKS[first]
        return action(parts, row)
