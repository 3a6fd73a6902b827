"""The tests' own plain hearing, by which much is held, is as doors hear."""

import unittest

from tests.samples import door_of, labelled, plain_button, plain_hear, states_at


class PlainHearing(unittest.TestCase):
    def test_as_a_door_hears(self):
        for near, far in ((1, 1), (1, 3), (2, 6)):
            for lasts, counts in (((1, 3), range(12)), ((4090, 4095), range(4088, 4096))):
                for state in states_at(near, far, lasts):
                    for closed in (0, 1):
                        door = door_of([("gate",) + state], near=near, far=far, closed=closed)
                        self.check_door(door, state, counts)

    def check_door(self, door, state, counts):
        for age in (-1, 0, 1, 2):
            for count in counts:
                twin = door.twin_door()
                answer = twin.hear(labelled("gate", age, count))
                opened, behind = plain_hear(door, state, age, count)
                self.assertEqual(answer[0] == "open", opened)
                self.assertEqual(plain_button(twin, "gate"), behind)

    def test_an_unknown_button(self):
        self.assertEqual(plain_hear(door_of([]), None, 0, 1), (False, None))


if __name__ == "__main__":
    unittest.main()
