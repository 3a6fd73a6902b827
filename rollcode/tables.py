"""Digits, tables and keys, and the rows of digits that they code."""

DIGITS = 16
LONGEST_KEY = 8


def is_number(thing):
    """Whether a thing is a whole number."""
    # To Python True and False are whole numbers, too; here they are none.
    return isinstance(thing, int) and not isinstance(thing, bool)


def is_digit(thing):
    """Whether a thing is a whole number from 0 to 15."""
    return is_number(thing) and 0 <= thing < DIGITS


def are_digits(things):
    """Whether each of some things is a digit."""
    return all([is_digit(thing) for thing in things])


def is_table(thing):
    """Whether a thing is a tuple of all sixteen digits in some order."""
    if not isinstance(thing, tuple):
        return False
    return are_digits(thing) and sorted(thing) == list(range(DIGITS))


def is_key(thing):
    """Whether a thing is a tuple of one to eight digits."""
    if not isinstance(thing, tuple):
        return False
    return 1 <= len(thing) <= LONGEST_KEY and are_digits(thing)


def back_table(table):
    """The table that leads back: for each digit its place in table."""
    back = [0] * DIGITS
    for place, digit in enumerate(table):
        back[digit] = place
    return tuple(back)


def coded(table, key, digits):
    """The row of digits, coded by the table once for each digit of the key."""
    row = list(digits)
    for shift in key:
        for place in range(len(digits)):
            # At place 0 the index is -1: ahead of the first stands the last.
            ahead = row[place - 1]
            row[place] = table[(row[place] + shift + place + ahead) % DIGITS]
    return tuple(row)


def decoded(table, key, digits):
    """The row of digits that coded makes these of."""
    back = back_table(table)
    row = list(digits)
    # The last step is undone first: the place ahead is then as it was.
    for shift in reversed(key):
        for place in reversed(range(len(digits))):
            ahead = row[place - 1]
            row[place] = (back[row[place]] - shift - place - ahead) % DIGITS
    return tuple(row)
