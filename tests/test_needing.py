"""Point [9]: how many presses a door must hear till one is let in."""

import random
import unittest

from rollcode.needing import needs
from tests.samples import (
    check_told, door_of, door_with, labelled, new_door, plain_button, plain_hear, sent,
    state_of, states_at)


def by_hearing(door, name, age, count):
    """What needs is to tell: a twin hears press behind press."""
    twin = door.twin_door()
    for each in range(count, 4096):
        if twin.hear(labelled(name, age, each))[0] == "open":
            return each - count + 1
    return None


def by_counts(door, name, age, count):
    """The same by counts alone, for many questions."""
    button = plain_button(door, name)
    # Some behind the far ones are tried, too; all others are beyond as well.
    for each in range(count, min(4096, button[1] + door.bounds_told()[1] + 5)):
        opened, button = plain_hear(door, button, age, each)
        if opened:
            return each - count + 1
    return None


class ByHand(unittest.TestCase):
    def setUp(self):
        self.door = door_with("gate", 0, 10, near=4, far=20)

    def test_near_ones(self):
        for count in (11, 12, 13, 14):
            self.assertEqual(needs(self.door, "gate", 0, count), 1)

    def test_far_ones(self):
        for count in (15, 16, 28, 29):
            self.assertEqual(needs(self.door, "gate", 0, count), 2)

    def test_the_last_far_one_has_no_far_one_behind_it(self):
        self.assertIsNone(needs(self.door, "gate", 0, 30))

    def test_beyond(self):
        for count in (31, 32, 500, 4094, 4095):
            self.assertIsNone(needs(self.door, "gate", 0, count))

    def test_old_ones_are_counted(self):
        self.assertEqual(needs(self.door, "gate", 0, 10), 2)
        self.assertEqual(needs(self.door, "gate", 0, 9), 3)
        self.assertEqual(needs(self.door, "gate", 0, 0), 12)

    def test_an_unknown_button(self):
        for name in ("door", "gat", "gates", "a"):
            self.assertIsNone(needs(self.door, name, 0, 11))
        self.assertIsNone(needs(new_door(), "gate", 0, 1))

    def test_a_forgotten_button(self):
        self.door.forget("gate")
        self.assertIsNone(needs(self.door, "gate", 0, 11))

    def test_an_age_that_is_newer(self):
        self.assertEqual(needs(self.door, "gate", 1, 11), 1)
        self.assertEqual(needs(self.door, "gate", 1, 15), 2)

    def test_ages_that_are_not_taken(self):
        for age in (-1, -2, -8, 2, 3, 7, 8, 100):
            self.assertIsNone(needs(self.door, "gate", age, 11))

    def test_an_age_below_the_buttons(self):
        door = door_with("gate", 1, 10)
        self.assertIsNone(needs(door, "gate", 0, 11))
        self.assertEqual(needs(door, "gate", 1, 11), 1)

    def test_a_closed_age(self):
        self.door.close_below(1)
        self.assertIsNone(needs(self.door, "gate", 0, 11))
        self.assertEqual(needs(self.door, "gate", 1, 11), 1)

    def test_one_that_waits(self):
        self.assertEqual(self.door.hear(sent("gate", 0, 20)), ("held", "far"))
        self.assertEqual(needs(self.door, "gate", 0, 21), 1)
        # From these counts on what waits is put off by the first one.
        for count in (15, 18, 20, 22, 29):
            self.assertEqual(needs(self.door, "gate", 0, count), 2)

    def test_one_that_waits_of_another_age(self):
        self.assertEqual(self.door.hear(sent("gate", 1, 20)), ("held", "far"))
        self.assertEqual(needs(self.door, "gate", 0, 21), 2)
        self.assertEqual(needs(self.door, "gate", 1, 21), 1)

    def test_the_last_far_one_behind_what_waits(self):
        self.assertEqual(self.door.hear(sent("gate", 0, 29)), ("held", "far"))
        self.assertEqual(needs(self.door, "gate", 0, 30), 1)

    def test_one_that_waits_at_the_end_is_of_no_use(self):
        self.assertEqual(self.door.hear(sent("gate", 0, 30)), ("held", "far"))
        self.assertIsNone(needs(self.door, "gate", 0, 31))

    def test_near_as_great_as_far(self):
        door = door_with("gate", 0, 10, near=4, far=4)
        self.assertEqual(needs(door, "gate", 0, 14), 1)
        self.assertIsNone(needs(door, "gate", 0, 15))
        self.assertEqual(needs(door, "gate", 0, 3), 9)

    def test_the_last_counts(self):
        door = door_with("gate", 0, 4093, near=1, far=20)
        self.assertEqual(needs(door, "gate", 0, 4092), 3)
        self.assertEqual(needs(door, "gate", 0, 4093), 2)
        self.assertEqual(needs(door, "gate", 0, 4094), 1)
        self.assertIsNone(needs(door, "gate", 0, 4095))
        self.assertEqual(door.hear(sent("gate", 0, 4094)), ("open", "gate", 0))
        self.assertEqual(needs(door, "gate", 0, 4095), 1)
        for count in (4096, 4097, 5000, 100000):
            self.assertIsNone(needs(door, "gate", 0, count))

    def test_behind_the_last_count_none_is_let_in(self):
        door = door_with("gate", 0, 4095, near=4, far=20)
        for count in (0, 4093, 4094, 4095, 4096, 4097):
            self.assertIsNone(needs(door, "gate", 0, count))

    def test_no_count_of_4096_is_needed_to_open(self):
        door = door_with("gate", 0, 4090, near=2, far=20)
        self.assertEqual(needs(door, "gate", 0, 4094), 2)
        self.assertIsNone(needs(door, "gate", 0, 4095))
        self.assertEqual(door.hear(sent("gate", 0, 4095)), ("held", "far"))
        self.assertIsNone(needs(door, "gate", 0, 4096))


class AgainstHearing(unittest.TestCase):
    def test_small_doors(self):
        for near, far in ((1, 1), (1, 2), (1, 5), (2, 6), (3, 3)):
            for state in states_at(near, far, (2, 3)):
                for closed in (0, 1):
                    door = door_of([("gate",) + state], near=near, far=far, closed=closed)
                    for age in (-1, 0, 1, 2):
                        for count in range(0, 3 + far + 3):
                            self.assertEqual(
                                needs(door, "gate", age, count), by_counts(door, "gate", age, count))

    def test_small_doors_at_the_last_counts(self):
        for near, far in ((1, 1), (1, 4), (2, 9)):
            for state in states_at(near, far, range(4088, 4096)):
                door = door_of([("gate",) + state], near=near, far=far)
                for age in (0, 1):
                    for count in range(4085, 4099):
                        self.assertEqual(
                            needs(door, "gate", age, count), by_counts(door, "gate", age, count))

    def test_by_a_twin_that_hears_them(self):
        chance = random.Random(9)
        for k in range(150):
            near = chance.choice((1, 2, 5))
            far = near + chance.choice((0, 1, 4, 9))
            state = chance.choice(states_at(near, far, range(4070, 4090)))
            door = door_of([("gate",) + state], near=near, far=far, closed=chance.choice((0, 0, 1)))
            age = chance.choice((-1, 0, 0, 1, 1, 2))
            count = chance.randrange(4066, 4098)
            self.assertEqual(needs(door, "gate", age, count), by_hearing(door, "gate", age, count))

    def test_the_widest_window(self):
        door = door_with("gate", 0, 100, near=64, far=1024)
        for count in (0, 100, 101, 164, 165, 166, 1122, 1123, 1124, 1125):
            self.assertEqual(needs(door, "gate", 0, count), by_counts(door, "gate", 0, count))
        self.assertEqual(needs(door, "gate", 0, 1123), 2)
        self.assertIsNone(needs(door, "gate", 0, 1124))

    def test_each_button_by_itself(self):
        door = door_of([("a", 0, 5, None), ("b", 1, 30, (1, 40))])
        self.assertEqual(needs(door, "a", 0, 6), 1)
        self.assertEqual(needs(door, "b", 1, 6), 26)
        self.assertEqual(needs(door, "b", 1, 41), 1)
        self.assertIsNone(needs(door, "a", 1, 41))


class Asked(unittest.TestCase):
    def test_the_door_stays_as_it_was(self):
        door = door_of([("b", 1, 3, None), ("gate", 0, 10, (0, 20))])
        door.hear(sent("gate", 0, 4))
        ahead = state_of(door)
        for count in (0, 11, 15, 20, 21, 4095, 4096):
            for age in (-1, 0, 1, 2):
                told = needs(door, "gate", age, count)
                check_told(self, told)
                self.assertEqual(needs(door, "gate", age, count), told)
        self.assertEqual(state_of(door), ahead)


if __name__ == "__main__":
    unittest.main()
