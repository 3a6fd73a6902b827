"""Needing: how many presses of a button a door must hear till it opens."""

from rollcode.presses import COUNTS


def needs(door, name, age, count):
    """How many presses from that count on, up to the one that is let in.

    None where none is let in, up to the last count that there is.
    """
    button = door.button_of(name)
    if button is None:
        return None
    # The old ones change nothing: they are counted, and not walked through.
    for each in range(max(count, button[1] + 1), COUNTS):
        word, button = door.plain_step(button, age, each)
        if word == "near":
            return each - count + 1
        if word != "far":
            # Behind what is held by its age, or beyond, are such alone.
            return None
    return None
