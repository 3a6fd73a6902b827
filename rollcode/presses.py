"""Presses: the key of a button, what it sends, and what is read of that."""

from rollcode.tables import DIGITS, coded, decoded

KEY_PLACES = 4


def letter_digits(name):
    """Two digits for each letter of a name, one behind the other."""
    digits = []
    for letter in name:
        place = ord(letter) - ord("a")
        digits.append(place % DIGITS)
        digits.append(place // DIGITS)
    return digits


def key_of(table, key, name):
    """The key of the button of that name, by its house's key."""
    sums = [0] * KEY_PLACES
    for place, digit in enumerate(letter_digits(name)):
        sums[place % KEY_PLACES] += digit
    return coded(table, key, [total % DIGITS for total in sums])


def count_digits(count):
    """The three digits of a count, the least one first."""
    return (count % DIGITS, count // DIGITS % DIGITS, count // 256)


def press_of(table, key, name, age, count, deed):
    """The press (name, age, code) of a button, by its house's key."""
    four = count_digits(count) + (deed,)
    five = four + (sum(four) % DIGITS,)
    return (name, age, coded(table, key_of(table, key, name), five))


def read_press(table, key, press):
    """The pair (count, deed) of a press, None where its sum is wrong."""
    name, age, code = press
    low, middle, high, deed, check = decoded(table, key_of(table, key, name), code)
    if check != (low + middle + high + deed) % DIGITS:
        return None
    return (low + middle * DIGITS + high * 256, deed)
