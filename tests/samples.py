"""Tables, keys, presses and small checks that several test files share."""

from rollcode.doors import Door
from rollcode.errors import CodeError
from rollcode.presses import key_of, press_of
from rollcode.tables import coded

PLAIN = (0, 1, 2, 3, 4, 5, 6, 7, 8, 9, 10, 11, 12, 13, 14, 15)
BACKWARD = (15, 14, 13, 12, 11, 10, 9, 8, 7, 6, 5, 4, 3, 2, 1, 0)
# In no plain order, and not its own back table.
MIXED = (12, 5, 6, 11, 9, 0, 10, 13, 3, 14, 15, 8, 4, 7, 1, 2)
TABLES = (PLAIN, BACKWARD, MIXED)

KEYS = (
    (0,),
    (15,),
    (3, 9),
    (7, 0, 15),
    (1, 2, 3, 4),
    (15, 15, 15, 15, 15),
    (0, 1, 0, 1, 0, 8),
    (9, 8, 7, 6, 5, 4, 3),
    (1, 2, 3, 4, 5, 6, 7, 8),
)

# A house's keys, by their ages.
HOUSE = (
    (3, 9),
    (7, 0, 15),
    (1, 2, 3, 4),
    (15,),
    (0, 1, 0, 1, 0, 8),
    (9, 8, 7, 6, 5, 4, 3),
    (1, 2, 3, 4, 5, 6, 7, 8),
    (4, 4),
)


def sent(name, age, count, deed=0):
    """The press of a button of the house."""
    return press_of(MIXED, HOUSE[age], name, age, count, deed)


def wrong_sum(name, age, count):
    """A press of the house, right in all but that its sum is one too great."""
    four = (count % 16, count // 16 % 16, count // 256, 0)
    five = four + ((sum(four) + 1) % 16,)
    return (name, age, coded(MIXED, key_of(MIXED, HOUSE[age], name), five))


def new_door(many=2, near=4, far=20, most=3):
    """A door of the house with so many keys, that knows no button yet."""
    return Door(MIXED, HOUSE[:many], near, far, most)


def teach(door, name, age, last):
    """The door learns the button: last is the count of its second press."""
    door.learn(sent(name, age, last - 1), sent(name, age, last))


def door_with(name, age, last, **made):
    """A door as by new_door that has learnt this button."""
    door = new_door(**made)
    teach(door, name, age, last)
    return door


def state_of(door):
    """All that a door tells of itself."""
    return (
        door.known_now(), door.keys_now(), door.closed_now(),
        door.bounds_told(), door.table_told(), door.log_now())


def check_told(test, thing):
    """What was told is made of numbers, texts, None and tuples alone."""
    test.assertIn(type(thing), (int, str, type(None), tuple))
    if type(thing) is tuple:
        for part in thing:
            check_told(test, part)


def check_row(test, row, length):
    """A row that was told is a tuple of so many digits, no True or False."""
    test.assertIs(type(row), tuple)
    test.assertEqual(len(row), length)
    for digit in row:
        test.assertIs(type(digit), int)
        test.assertIn(digit, range(16))


def labelled(name, age, count):
    """A press with any number as its age; one of the keys', where there is one."""
    key = HOUSE[age] if 0 <= age < len(HOUSE) else HOUSE[0]
    return press_of(MIXED, key, name, age, count, 0)


def door_of(known, many=2, near=4, far=20, most=3, closed=0):
    """A door of the house that has come, by what it heard, to what known_now tells."""
    door = new_door(many, near, far, most)
    for name, age, last, waiting in known:
        teach(door, name, age, last)
        if waiting is not None:
            assert door.hear(sent(name, *waiting)) == ("held", "far")
    if closed:
        door.close_below(closed)
    assert door.known_now() == tuple(known)
    return door


def plain_hear(door, button, age, count):
    """(whether it opens, the button behind it): point [8] in the test's own words.

    A button is (age, last, waiting or None), or None where it isn't known.
    """
    near, far, most = door.bounds_told()
    if button is None or age < door.closed_now() or not 0 <= age < len(door.keys_now()):
        return (False, button)
    own, last, waiting = button
    if age < own or count <= last or count > last + far:
        return (False, button)
    if count <= last + near or waiting == (age, count - 1):
        return (True, (age, count, None))
    return (False, (own, last, (age, count)))


def plain_button(door, name):
    """The button as plain_hear takes it."""
    for row in door.known_now():
        if row[0] == name:
            return row[1:]
    return None


def states_at(near, far, lasts, ages=2):
    """All (age, last, waiting or None) that a button with such a last count can have."""
    states = []
    for age in range(ages):
        for last in lasts:
            states.append((age, last, None))
            for late_age in range(age, ages):
                for count in range(last + near + 1, min(last + far, 4095) + 1):
                    states.append((age, last, (late_age, count)))
    return states


NAMES = ("a", "b", "gate", "zz")


def some_deed(door, chance, least=0, counts=40):
    """Does something to the door, refused or not: all that its log may hold comes up."""
    name = chance.choice(NAMES)
    known = plain_button(door, name)
    chosen = chance.randrange(20)
    try:
        if chosen == 0:
            door.forget(name)
        elif chosen == 1 and chance.randrange(3) == 0:
            door.turn_key(HOUSE[len(door.keys_now()) % 8])
        elif chosen == 2 and chance.randrange(3) == 0:
            door.close_below(chance.randrange(len(door.keys_now())))
        elif chosen == 3:
            door.hear(chance.choice((None, wrong_sum(name, 0, 5), labelled(name, 9, 4))))
        elif chosen < 8:
            age = chance.randrange(len(door.keys_now()))
            teach(door, name, age, least + chance.randrange(1, counts))
        else:
            age = chance.randrange(len(door.keys_now()))
            last = least if known is None else known[1]
            count = max(0, min(4095, last + chance.choice((-2, 0, 1, 1, 2, 5, 5, 6, 7, 30))))
            door.hear(sent(name, age, count, chance.randrange(16)))
    except CodeError:
        pass


def grown_door(chance, deeds, least=0, first_keys=None):
    """A door to which much was done."""
    many = first_keys or chance.randrange(1, 4)
    door = new_door(many=many, near=chance.choice((1, 3)), far=chance.choice((6, 20)), most=3)
    for k in range(deeds):
        some_deed(door, chance, least)
    return door


def all_of(house, doors, buttons):
    """All that a house tells of itself."""
    return (
        tuple(state_of(house.door_now(door)) for door in doors),
        tuple(house.button_now(button) for button in buttons),
        house.kept_now(),
        tuple(house.opened_by(door) for door in doors),
        house.apart_now())
