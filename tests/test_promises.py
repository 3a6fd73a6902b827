"""Point [1], as far as it speaks of a button and a door: rows of presses in any order."""

import itertools
import random
import unittest

from rollcode.buttons import Button
from rollcode.errors import Worn
from rollcode.presses import read_press
from tests.samples import HOUSE, MIXED, door_with, new_door, sent, teach


def plain(press):
    """(name, age, count) of a press of the house."""
    count, deed = read_press(MIXED, HOUSE[press[1]], press)
    return (press[0], press[1], count)


class LetInOnce(unittest.TestCase):
    def check_row(self, door, presses):
        """Hears all of them: none is let in twice, nor an elder one."""
        lasts = {row[0]: (row[1], row[2]) for row in door.known_now()}
        for press in presses:
            answer = door.hear(press)
            name, age, count = plain(press)
            if answer[0] == "open":
                self.assertLess(lasts[name][1], count)
                self.assertLessEqual(lasts[name][0], age)
                lasts[name] = (age, count)
            now = {row[0]: (row[1], row[2]) for row in door.known_now()}
            self.assertEqual(now, lasts)

    def test_all_short_rows_of_one_button(self):
        presses = [sent("gate", 0, count) for count in (1, 2, 3, 5, 6, 7)]
        for near, far in ((1, 1), (1, 3), (2, 6), (6, 6)):
            start = door_with("gate", 0, 1, near=near, far=far)
            for row in itertools.product(presses, repeat=4):
                self.check_row(start.twin_door(), row)

    def test_all_orders_of_a_row(self):
        presses = [sent("gate", 0, count) for count in (2, 3, 6, 7, 8)] + [sent("gate", 1, 4)]
        start = door_with("gate", 0, 1, near=2, far=7)
        for row in itertools.permutations(presses):
            self.check_row(start.twin_door(), row)

    def test_long_rows_of_several_buttons(self):
        names = ("a", "aa", "gate")
        for seed in range(40):
            chance = random.Random(seed)
            near = chance.choice((1, 2, 8))
            door = new_door(many=3, near=near, far=chance.choice((near, 9, 40)))
            for name in names:
                teach(door, name, 0, chance.choice((1, 5, 20)))
            presses = [
                sent(chance.choice(names), chance.choice((0, 0, 0, 1, 2)), chance.randrange(60))
                for k in range(150)]
            # Some are heard twice, some late.
            presses += chance.sample(presses, 50)
            self.check_row(door, presses)

    def test_whatever_else_is_done_between(self):
        for seed in range(30):
            chance = random.Random(seed)
            door = door_with("gate", 0, 1, many=2, near=3, far=12, most=2)
            let_in = []
            for k in range(120):
                chosen = chance.randrange(10)
                if chosen == 0 and len(door.keys_now()) < 4:
                    door.turn_key(HOUSE[len(door.keys_now())])
                elif chosen == 1:
                    door.close_below(chance.randrange(2))
                elif chosen == 2:
                    door.hear(None)
                else:
                    age = chance.randrange(len(door.keys_now()))
                    press = sent("gate", age, chance.randrange(1, 40))
                    if door.hear(press)[0] == "open":
                        let_in.append(plain(press)[2])
            self.assertEqual(let_in, sorted(set(let_in)))


class LetIn(unittest.TestCase):
    def test_within_the_window(self):
        for near in (1, 2, 5, 64):
            for missed in range(near):
                door = door_with("gate", 0, 7, near=near, far=64)
                press = sent("gate", 0, 8 + missed)
                self.assertEqual(door.hear(press), ("open", "gate", 0))

    def test_beyond_it_by_two_in_a_row(self):
        for near, far in ((1, 3), (2, 9), (5, 40)):
            for missed in range(near, far - 1):
                door = door_with("gate", 0, 7, near=near, far=far)
                self.assertEqual(door.hear(sent("gate", 0, 8 + missed)), ("held", "far"))
                self.assertEqual(door.hear(sent("gate", 0, 9 + missed)), ("open", "gate", 0))

    def test_beyond_far_never(self):
        door = door_with("gate", 0, 7, near=2, far=9)
        for count in range(17, 60):
            self.assertEqual(door.hear(sent("gate", 0, count)), ("held", "beyond"))

    def test_a_button_goes_on_whatever_its_cell_does(self):
        for step, near in ((1, 1), (2, 2), (8, 8), (64, 64)):
            for goes in ("out", "torn"):
                button = Button("gate", MIXED, HOUSE[0], 0, step)
                door = new_door(near=near, far=near)
                door.learn(button.press_once(0), button.press_once(0))
                for k in range(30):
                    # A step within the window: the next press is near.
                    if goes == "out":
                        button.cell_out()
                    else:
                        button.cell_torn()
                    self.assertEqual(door.hear(button.press_once(3)), ("open", "gate", 3))

    def test_a_button_that_is_turned(self):
        button = Button("gate", MIXED, HOUSE[0], 0, 4)
        door = new_door(many=8)
        door.learn(button.press_once(0), button.press_once(0))
        for age in range(1, 8):
            button.turn_key(HOUSE[age])
            self.assertEqual(door.hear(button.press_once(1)), ("open", "gate", 1))
            self.assertEqual(door.known_now(), (("gate", age, age + 1, None),))
        self.assertRaises(Worn, button.turn_key, HOUSE[0])

    def test_all_presses_of_a_button_in_order(self):
        button = Button("gate", MIXED, HOUSE[0], 0, 64)
        door = new_door(near=1, far=1)
        door.learn(button.press_once(0), button.press_once(0))
        for count in range(2, 4096):
            self.assertEqual(door.hear(button.press_once(count % 16)), ("open", "gate", count % 16))
        self.assertEqual(door.known_now(), (("gate", 0, 4095, None),))


class AsTold(unittest.TestCase):
    """Against a plain reckoning of the words, by counts alone."""

    def reckon(self, known, age, count, near, far):
        """(answer's word, known behind) for one button (age, last, waiting)."""
        own, last, waiting = known
        if age < own:
            return ("age", known)
        ahead = count - last
        in_a_row = waiting == (age, count - 1) and near < ahead <= far
        if 1 <= ahead <= near or in_a_row:
            return ("open", (age, count, None))
        if ahead < 1:
            return ("old", known)
        if ahead > far:
            return ("beyond", known)
        return ("far", (own, last, (age, count)))

    def test_long_rows(self):
        for seed in range(60):
            chance = random.Random(seed)
            near = chance.choice((1, 2, 5))
            far = near + chance.choice((0, 1, 6, 30))
            door = door_with("gate", 0, 3, near=near, far=far)
            known, age, count = (0, 3, None), 0, 3
            for k in range(200):
                # Mostly a little ahead, so that all words come up.
                count = max(0, count + chance.choice((1, 1, 1, 1, 2, 3, 7, -1, -4, 0)))
                if count > known[1] + far + 3:
                    count = known[1]
                age = chance.choice((0, 0, 1)) if k > 150 else 0
                word, known = self.reckon(known, age, count, near, far)
                told = door.hear(sent("gate", age, count, k % 16))
                if word == "open":
                    self.assertEqual(told, ("open", "gate", k % 16))
                else:
                    self.assertEqual(told, ("held", word))
                self.assertEqual(door.known_now(), (("gate",) + known,))


if __name__ == "__main__":
    unittest.main()
