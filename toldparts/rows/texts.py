"""Parts and rows read from texts and shown as texts."""

from toldparts.errors import NoParts, NoRow

FIGURES = "0123456789"


def is_part_word(word):
    """Whether a word is a number from 1 on, as it is written."""
    if word == "" or word[0] == "0":
        return False
    return all(sign in FIGURES for sign in word)


def read_parts(text):
    """The parts that a text names in any order, or NoParts."""
    words = text.split(" ")
    seen = set()
    for place, word in enumerate(words):
        # No number has a nought ahead, so alike numbers are alike words.
        if word in seen or not is_part_word(word):
            raise NoParts(place)
        seen.add(word)
    return tuple(sorted([int(word) for word in words]))


def read_row(parts, text):
    """The row of these parts that a text names, or NoRow."""
    # Splitting would give one empty word here, which is no part.
    if text == "":
        return ()
    part_of = {str(part): part for part in parts}
    row = []
    for place, word in enumerate(text.split(" ")):
        if word not in part_of:
            raise NoRow(place)
        row.append(part_of[word])
    return tuple(row)


def numbers_shown(numbers):
    """The text of parts or of a row."""
    return " ".join([str(number) for number in numbers])


def is_row(parts, number, thing):
    """Whether a tuple of whole numbers is a row of these parts that comes to the number."""
    return all(one in parts for one in thing) and sum(thing) == number
