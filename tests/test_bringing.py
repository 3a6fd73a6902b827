"""Point [13]: the count by which two doors come together."""

import random
import unittest

from rollcode.sharing import brought
from tests.samples import (
    check_told, door_of, door_with, new_door, plain_button, plain_hear, sent, state_of, states_at)


def behind_two(door, button, age, count):
    for each in (count, count + 1):
        button = plain_hear(door, button, age, each)[1]
    return button[:2]


def plain_brought(one, other, counts):
    """Each count of these is tried, by plain hearing."""
    told = []
    for row in one.known_now():
        first, second = row[1:], plain_button(other, row[0])
        if second is None or first[1] == second[1]:
            continue
        age = max(first[0], second[0])
        least = None
        for count in counts:
            if least is None and behind_two(one, first, age, count) == behind_two(other, second, age, count):
                least = count
        told.append((row[0], least))
    return tuple(told)


class ByHand(unittest.TestCase):
    def check_both(self, one, other, told):
        self.assertEqual(brought(one, other), told)
        self.assertEqual(brought(other, one), told)

    def test_names_known_in_one_alone(self):
        self.check_both(door_with("gate", 0, 10), new_door(), ())
        self.check_both(door_with("gate", 0, 10), door_with("a", 0, 20), ())
        self.check_both(new_door(), new_door(), ())

    def test_last_counts_alike(self):
        self.check_both(door_with("gate", 0, 10), door_with("gate", 0, 10), ())
        # Of ages that are unlike, too.
        self.check_both(door_with("gate", 0, 10), door_with("gate", 1, 10), ())

    def test_unlike_by_less_than_near(self):
        # 11 and 12: one lets in both, to the other one they are old.
        self.check_both(door_with("gate", 0, 10), door_with("gate", 0, 12), (("gate", 11),))
        # The press ahead of the last one is old to both then.
        self.check_both(door_with("gate", 0, 10), door_with("gate", 0, 11), (("gate", 10),))

    def test_unlike_by_near(self):
        self.check_both(door_with("gate", 0, 10), door_with("gate", 0, 14), (("gate", 13),))
        self.check_both(door_with("gate", 0, 10), door_with("gate", 0, 15), (("gate", 14),))

    def test_unlike_by_far(self):
        # Two in a row let the one that is behind in.
        self.check_both(door_with("gate", 0, 10), door_with("gate", 0, 16), (("gate", 15),))
        self.check_both(door_with("gate", 0, 10), door_with("gate", 0, 30), (("gate", 29),))

    def test_unlike_by_more_than_far(self):
        self.check_both(door_with("gate", 0, 10), door_with("gate", 0, 31), (("gate", None),))
        self.check_both(door_with("gate", 0, 10), door_with("gate", 0, 4095), (("gate", None),))

    def test_ages_unlike(self):
        # The one that is ahead in counts must be let in by the newer age.
        self.check_both(door_with("gate", 1, 10), door_with("gate", 0, 12), (("gate", 12),))
        self.check_both(door_with("gate", 0, 10), door_with("gate", 1, 12), (("gate", 11),))

    def test_a_closed_age(self):
        one = door_with("gate", 0, 10)
        other = door_with("gate", 0, 12)
        other.close_below(1)
        # The other one has that count already, and needs hear nothing.
        self.check_both(one, other, (("gate", 11),))
        one.close_below(1)
        self.check_both(one, other, (("gate", None),))

    def test_what_waits(self):
        one = door_of([("gate", 0, 10, (0, 20))], near=2, far=20)
        other = door_with("gate", 0, 21, near=2, far=20)
        self.check_both(one, other, (("gate", 20),))
        # 21 opens one by what waits, then 22 opens it, too, and the other one.
        other = door_with("gate", 0, 22, near=2, far=20)
        self.check_both(one, other, (("gate", 21),))

    def test_bounds_unlike(self):
        one = door_with("gate", 0, 10, near=1, far=1)
        other = door_with("gate", 0, 12, near=4, far=20)
        self.check_both(one, other, (("gate", 11),))
        other = door_with("gate", 0, 13, near=4, far=20)
        self.check_both(one, other, (("gate", None),))

    def test_the_last_counts(self):
        self.check_both(door_with("gate", 0, 4094), door_with("gate", 0, 4095), (("gate", 4094),))
        self.check_both(door_with("gate", 0, 4090), door_with("gate", 0, 4095), (("gate", 4094),))
        # 4095 is no first one of two.
        self.check_both(door_with("gate", 1, 4094), door_with("gate", 0, 4095), (("gate", None),))
        self.check_both(door_with("gate", 1, 4093), door_with("gate", 0, 4094), (("gate", 4094),))

    def test_the_first_counts(self):
        self.check_both(door_with("gate", 0, 1), door_with("gate", 0, 2), (("gate", 1),))

    def test_several_names_rise(self):
        one = door_of([("a", 0, 5, None), ("b", 0, 5, None), ("c", 0, 5, None)])
        other = door_of([("a", 0, 7, None), ("b", 0, 5, None), ("c", 0, 50, None)])
        self.check_both(one, other, (("a", 6), ("c", None)))


class AgainstAllCounts(unittest.TestCase):
    def some_door(self, chance, lasts):
        near = chance.choice((1, 2, 3))
        far = near + chance.choice((0, 1, 3, 6))
        states = states_at(near, far, lasts)
        known = [(name,) + chance.choice(states) for name in ("a", "b")]
        return door_of(known, near=near, far=far, closed=chance.choice((0, 0, 1)))

    def test_the_first_counts(self):
        for seed in range(300):
            chance = random.Random(seed)
            one, other = self.some_door(chance, range(1, 9)), self.some_door(chance, range(1, 9))
            self.assertEqual(brought(one, other), plain_brought(one, other, range(30)))

    def test_the_last_counts(self):
        for seed in range(300):
            chance = random.Random(seed)
            one, other = self.some_door(chance, range(4087, 4096)), self.some_door(chance, range(4087, 4096))
            self.assertEqual(brought(one, other), plain_brought(one, other, range(4080, 4095)))

    def test_all_counts(self):
        for seed in range(6):
            chance = random.Random(seed)
            one, other = self.some_door(chance, (2000, 2002, 2004)), self.some_door(chance, (2001, 2003, 2004))
            self.assertEqual(brought(one, other), plain_brought(one, other, range(4095)))

    def test_by_presses_that_are_heard(self):
        for seed in range(100):
            chance = random.Random(seed)
            one, other = self.some_door(chance, range(1, 9)), self.some_door(chance, range(1, 9))
            for name, count in brought(one, other):
                if count is not None:
                    age = max(plain_button(one, name)[0], plain_button(other, name)[0])
                    these, those = one.twin_door(), other.twin_door()
                    for door in (these, those):
                        door.hear(sent(name, age, count))
                        door.hear(sent(name, age, count + 1))
                    self.assertEqual(plain_button(these, name)[:2], plain_button(those, name)[:2])


class Asked(unittest.TestCase):
    def test_the_doors_stay_as_they_were(self):
        one = door_of([("a", 0, 5, (1, 12)), ("gate", 0, 10, None)], far=20)
        other = door_of([("a", 1, 9, None), ("gate", 0, 60, None)], far=21)
        ahead = (state_of(one), state_of(other))
        told = brought(one, other)
        check_told(self, told)
        self.assertEqual(told, (("a", 8), ("gate", None)))
        self.assertEqual(brought(one, other), told)
        self.assertEqual((state_of(one), state_of(other)), ahead)


if __name__ == "__main__":
    unittest.main()
