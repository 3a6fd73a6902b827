"""Points [2], [8]: hear and learn are asked of anything; none of it makes them fall."""

import unittest

from rollcode.errors import BadPress
from tests.samples import door_with, sent, state_of

PRESS = sent("gate", 0, 11)
CODE = PRESS[2]


def deep(depth, shut):
    """Something that holds itself no more than depth times."""
    thing = shut([0])
    for _ in range(depth):
        thing = shut([thing])
    return thing


def with_digit(place, thing):
    return CODE[:place] + (thing,) + CODE[place + 1:]


PLAIN_THINGS = (
    None, True, False, 0, 1, -1, 11, 10 ** 40, -(10 ** 40),
    "", "gate", "a", "open", " ", "~", "\n", "g" * 5000,
    (), [], ((),), [[]], (None,), [None], (0,), ("gate",), deep(3000, tuple), deep(3000, list),
)

# No tuple of three, or not of these three.
SHAPES = (
    ("gate", 0), ("gate", CODE), (0, CODE), ("gate", 0, CODE, 0), ("gate", 0, CODE, None),
    ("gate", 0) + CODE, (PRESS,), (PRESS, PRESS, PRESS), (PRESS, 0, CODE), ("gate", PRESS, CODE),
    ("gate", 0, PRESS), (0, "gate", CODE), (CODE, 0, "gate"), ("gate", CODE, 0),
    list(PRESS), ["gate", 0, list(CODE)], ("gate", 0, list(CODE)), (["gate"], 0, CODE),
    (("gate",), 0, CODE), (list("gate"), 0, CODE), (tuple("gate"), 0, CODE),
    ("gate", [0], CODE), ("gate", (0,), CODE), ("gate", 0, (CODE,)), ("gate", 0, [CODE]),
    ("gate", 0, "12345"), ("gate", 0, None), ("gate", 0, 12345), ("gate", 0, True),
    ("gate", None, CODE), ("gate", (), CODE), ("gate", [], CODE), ("gate", 0, ()),
    (None, None, None), (True, True, True), (0, 0, 0), ("", "", ""), ((), (), ()), ([], [], []),
)

NAMES = (
    "", "g" * 9, "abcdefghi", "g" * 5000, "Gate", "GATE", "gatE", "gat3", "ga te", " gate",
    "gate ", "gate\n", "\ngate", "ga_te", "ga-te", "`", "{", "a`", "a{", "@", "[", "A", "Z",
    "0", "~", " ", None, True, False, 0, 5, (), [], ("gate",), ["gate"], ("g", "a"), deep(50, list),
)

AGES = (
    True, False, None, "0", "", "a", (), [], (0,), [0], (None,), deep(50, tuple),
)

CODES = (
    (), CODE[:4], CODE + (0,), CODE[:1], CODE + CODE, CODE * 2000,
    list(CODE), [], "01234", "", None, 0, True, (CODE,), tuple(str(digit) for digit in CODE),
) + tuple(
    with_digit(place, thing)
    for place in range(5)
    for thing in (-1, -16, 16, 17, 10 ** 40, True, False, None, "0", "", (), [], (0,), [0])
)


def bad_things():
    """All that is no tuple (name, age, code)."""
    things = list(PLAIN_THINGS) + list(SHAPES)
    things += [(name, 0, CODE) for name in NAMES]
    things += [("gate", age, CODE) for age in AGES]
    things += [("gate", 0, code) for code in CODES]
    return things


class Hear(unittest.TestCase):
    def setUp(self):
        self.door = door_with("gate", 0, 10)

    def test_bad_and_nothing_is_changed(self):
        ahead = state_of(self.door)
        for thing in bad_things():
            self.assertEqual(self.door.hear(thing), ("held", "bad"))
        self.assertEqual(state_of(self.door), ahead)
        self.assertEqual(self.door.hear(PRESS), ("open", "gate", 0))

    def test_a_list_that_is_handed_in_stays(self):
        thing = ["gate", 0, list(CODE)]
        self.door.hear(thing)
        self.assertEqual(thing, ["gate", 0, list(CODE)])

    def test_ages_that_are_numbers_are_not_bad(self):
        for age in (-1, -(10 ** 40), 2, 8, 10 ** 40):
            self.assertEqual(self.door.hear(("gate", age, CODE)), ("held", "age"))
            self.assertEqual(self.door.hear(("other", age, CODE)), ("held", "unknown"))

    def test_every_code_of_five_digits_is_not_bad(self):
        for code in ((0,) * 5, (15,) * 5, (0, 15, 0, 15, 0)):
            self.assertNotEqual(self.door.hear(("gate", 0, code)), ("held", "bad"))
            self.assertEqual(self.door.hear(("other", 0, code)), ("held", "unknown"))

    def test_names_of_one_to_eight_letters_are_not_bad(self):
        for name in ("a", "z", "az", "abcdefgh", "stuvwxyz"):
            self.assertEqual(self.door.hear((name, 0, CODE)), ("held", "unknown"))


class Learn(unittest.TestCase):
    def setUp(self):
        self.door = door_with("other", 0, 10)
        self.ahead = state_of(self.door)

    def check_bad(self, place, one, other):
        with self.assertRaises(BadPress) as caught:
            self.door.learn(one, other)
        self.assertIs(type(caught.exception), BadPress)
        self.assertEqual(caught.exception.place, place)
        self.assertEqual(state_of(self.door), self.ahead)

    def not_right(self):
        """All that isn't right, though some of it has the form of a press."""
        things = bad_things()
        things += [("gate", age, CODE) for age in (-1, -(10 ** 40), 2, 8, 10 ** 40)]
        return things

    def test_as_one(self):
        for thing in self.not_right():
            self.check_bad(0, thing, sent("gate", 0, 12))

    def test_as_other(self):
        for thing in self.not_right():
            self.check_bad(1, sent("gate", 0, 10), thing)

    def test_as_both(self):
        for thing in self.not_right():
            self.check_bad(0, thing, thing)

    def test_goes_on_behind_all_that(self):
        for thing in bad_things():
            self.assertRaises(BadPress, self.door.learn, thing, PRESS)
        self.door.learn(sent("gate", 0, 10), PRESS)
        self.assertEqual(self.door.known_now()[0], ("gate", 0, 11, None))


if __name__ == "__main__":
    unittest.main()
