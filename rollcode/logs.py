"""Logs: doors that are made anew by them, shorter ones, and what was let in."""

from rollcode.doors import Door
from rollcode.errors import BadLog, BadPress, Full, Known, TooMany, Unknown
from rollcode.presses import is_name, is_press, press_of, read_press
from rollcode.tables import is_key, is_number


def learn_again(door, row):
    """Whether the door can learn what the row says; it has, then."""
    word, one, other = row
    try:
        door.learn(one, other)
    except (BadPress, Known, Full):
        return False
    return True


def forget_again(door, row):
    """Whether the door can forget what the row says; it has, then."""
    word, name = row
    if not is_name(name):
        return False
    try:
        door.forget(name)
    except Unknown:
        return False
    return True


def turn_again(door, row):
    """Whether the door can get the row's key; it has, then."""
    word, key = row
    if not is_key(key):
        return False
    try:
        door.turn_key(key)
    except TooMany:
        return False
    return True


def close_again(door, row):
    """Whether there is a key of the row's age; what is below it is closed, then."""
    word, age = row
    if not is_number(age) or not 0 <= age < len(door.keys_now()):
        return False
    door.close_below(age)
    return True


def hear_again(door, row):
    """Whether the door answers to the row's press as the row says."""
    word, press, answer = row
    if not is_press(press):
        return False
    return is_same(door.hear(press), answer)


DEEDS = {
    "learn": learn_again,
    "forget": forget_again,
    "turn": turn_again,
    "close": close_again,
    "hear": hear_again,
}

LENGTHS = {"learn": 3, "forget": 2, "turn": 2, "close": 2, "hear": 3}


def is_listed(thing):
    """Whether a thing is a tuple or a list."""
    return isinstance(thing, (tuple, list))


def is_same(answer, thing):
    """Whether a thing is this answer."""
    if not is_listed(thing) or tuple(thing) != answer:
        return False
    # To Python True is 1, and False is 0: as deeds they are none.
    return [is_number(part) for part in thing] == [is_number(part) for part in answer]


def is_done(door, row):
    """Whether a row of a log can be done; the door has done it, then."""
    if not is_listed(row) or not row or not isinstance(row[0], str):
        return False
    if row[0] not in DEEDS or len(row) != LENGTHS[row[0]]:
        return False
    deed = DEEDS[row[0]]
    return deed(door, row)


def replayed(table, keys, near, far, most, log):
    """The door that is made anew, and does the log."""
    if not is_listed(log):
        raise BadLog(0)
    door = Door(table, keys, near, far, most)
    for number, row in enumerate(log):
        if not is_done(door, row):
            raise BadLog(number)
    return door


def short_log(door):
    """A log by which a door of the first keys comes to what this one is now."""
    rows = [("turn", key) for key in keys_turned(door)]
    for name, age, last, waiting in door.known_now():
        one = press_by(door, name, age, last - 1)
        other = press_by(door, name, age, last)
        rows.append(("learn", one, other))
        if waiting is not None:
            late_age, count = waiting
            rows.append(("hear", press_by(door, name, late_age, count), ("held", "far")))
    # Only now: what was learnt may be of an age that is closed.
    if door.closed_now() > 0:
        rows.append(("close", door.closed_now()))
    return tuple(rows)


def keys_turned(door):
    """The keys that the door got behind those that it was made with."""
    turns = [row for row in door.log_now() if row[0] == "turn"]
    keys = door.keys_now()
    return keys[len(keys) - len(turns):]


def press_by(door, name, age, count):
    """The press of a button by the door's key of that age."""
    return press_of(door.table_told(), door.keys_now()[age], name, age, count, 0)


def let_in(table, keys, log):
    """The (name, age, count) of what was let in, in order."""
    told = []
    for row in log:
        if row[0] == "hear" and row[2][0] == "open":
            name, age, code = row[1]
            count, deed = read_press(table, keys[age], row[1])
            told.append((name, age, count))
    return tuple(told)
