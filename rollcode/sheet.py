"""Sheets: what is done in a house and asked of it, written row by row."""

from rollcode.errors import BadRow
from rollcode.presses import is_name
from rollcode.tables import is_digit, is_key, is_table

MOST_ROWS = 120
FIGURES = "0123456789"
SIGNS = "0123456789abcdef"
# No number of a sheet may be greater than 9999.
MOST_FIGURES = 4

# By a number's kind: the least and the greatest that it may be.
BOUNDS = {
    "near": (1, 64),
    "far": (1, 1024),
    "most": (1, 12),
    "step": (1, 64),
    "number": (0, 9999),
    "age": (0, 7),
}

# By a row's word: the kinds of the words behind it.
FORMS = {
    "house": ("table", "key"),
    "door": ("name", "near", "far", "most"),
    "button": ("name", "step"),
    "teach": ("name", "name"),
    "press": ("name", "deed"),
    "play": ("number", "name"),
    "lose": ("name",),
    "tear": ("name",),
    "turn": ("key",),
    "turned": ("name",),
    "close": ("age",),
    "forget": ("name", "name"),
    "known": ("name",),
    "now": ("name",),
    "opened": ("name",),
    "apart": (),
    "needs": ("name", "name"),
    "log": ("name",),
}


def read_sheet(text):
    """The rows of the sheet that aren't empty, each as (word, ..)."""
    rows = text.split("\n")
    told = []
    for number, row in enumerate(rows):
        if number == MOST_ROWS:
            raise BadRow(number)
        if row != "":
            values = read_row(row, not told)
            if values is None:
                raise BadRow(number)
            told.append(values)
    if not told:
        raise BadRow(len(rows))
    return tuple(told)


def read_row(row, is_first):
    """The row as (word, ..), None where it isn't well written."""
    word, *rest = row.split(" ")
    if word not in FORMS or (word == "house") != is_first:
        return None
    kinds = kinds_of(word, len(rest))
    if len(rest) != len(kinds):
        return None
    values = [read_word(kind, each) for kind, each in zip(kinds, rest)]
    if None in values:
        return None
    if word == "door" and values[1] > values[2]:
        # What is near is never beyond what is far.
        return None
    return (word,) + tuple(values)


def kinds_of(word, many):
    """The kinds of the words behind this one, where there are so many."""
    kinds = FORMS[word]
    if word == "press":
        # All words behind the deed are names of doors.
        return kinds + ("name",) * (many - len(kinds))
    return kinds


def read_word(kind, word):
    """What a word of that kind says, None where it isn't well written."""
    if kind == "name":
        return word if is_name(word) else None
    if kind in BOUNDS:
        return read_number(kind, word)
    digits = tuple([SIGNS.find(sign) for sign in word])
    if kind == "table":
        return digits if is_table(digits) else None
    if kind == "key":
        return digits if is_key(digits) else None
    return digits[0] if len(digits) == 1 and is_digit(digits[0]) else None


def read_number(kind, word):
    """The number that the word is, None where it's no number of that kind."""
    if not 1 <= len(word) <= MOST_FIGURES or not all([sign in FIGURES for sign in word]):
        return None
    if word[0] == "0" and word != "0":
        return None
    least, greatest = BOUNDS[kind]
    number = int(word)
    return number if least <= number <= greatest else None
