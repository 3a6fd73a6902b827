"""Presses: the key of a button, what it sends, and what is read of that."""

from rollcode.tables import DIGITS, are_digits, coded, decoded, is_number

KEY_PLACES = 4
LONGEST_NAME = 8
CODE_DIGITS = 5
AGES = 8
COUNTS = 4096


def is_name(thing):
    """Whether a thing is a text of one to eight letters a to z."""
    if not isinstance(thing, str) or not 1 <= len(thing) <= LONGEST_NAME:
        return False
    return all(["a" <= letter <= "z" for letter in thing])


def is_code(thing):
    """Whether a thing is a tuple of five digits."""
    if not isinstance(thing, tuple):
        return False
    return len(thing) == CODE_DIGITS and are_digits(thing)


def is_press(thing):
    """Whether a thing has the form of a press, whatever its age and its sum."""
    if not isinstance(thing, tuple) or len(thing) != 3:
        return False
    name, age, code = thing
    return is_name(name) and is_number(age) and is_code(code)


def letter_digits(name):
    """Two digits for each letter of a name, one behind the other."""
    digits = []
    for letter in name:
        place = ord(letter) - ord("a")
        digits.append(place % DIGITS)
        digits.append(place // DIGITS)
    return digits


def key_of(table, key, name):
    """The key of the button of that name, by its house's key."""
    sums = [0] * KEY_PLACES
    for place, digit in enumerate(letter_digits(name)):
        sums[place % KEY_PLACES] += digit
    return coded(table, key, [total % DIGITS for total in sums])


def count_digits(count):
    """The three digits of a count, the least one first."""
    return (count % DIGITS, count // DIGITS % DIGITS, count // 256)


def press_of(table, key, name, age, count, deed):
    """The press (name, age, code) of a button, by its house's key."""
    four = count_digits(count) + (deed,)
    five = four + (sum(four) % DIGITS,)
    return (name, age, coded(table, key_of(table, key, name), five))


def read_press(table, key, press):
    """The pair (count, deed) of a press, None where its sum is wrong."""
    name, age, code = press
    low, middle, high, deed, check = decoded(table, key_of(table, key, name), code)
    if check != (low + middle + high + deed) % DIGITS:
        return None
    return (low + middle * DIGITS + high * 256, deed)
