"""Points [1] and [2] over long rows of deeds in a house."""

import random
import unittest

from rollcode.errors import BadPress, CodeError, Full, Known, TooMany, Unknown, Worn
from rollcode.house import House
from rollcode.logs import let_in, replayed, short_log
from rollcode.presses import read_press
from tests.samples import HOUSE, MIXED, all_of, state_of


class LongRows(unittest.TestCase):
    DOORS = ("x", "y", "z")
    BUTTONS = ("a", "b", "gate")

    def some_deed(self, house, chance):
        door, button = chance.choice(self.DOORS), chance.choice(self.BUTTONS)
        chosen = chance.randrange(40)
        doors = [chance.choice(self.DOORS) for k in range(chance.randrange(4))]
        if chosen < 18:
            return house.press_button(button, chance.randrange(16), doors)
        if chosen < 26:
            return house.play_kept(chance.randrange(len(house.kept_now()) + 1), door)
        if chosen < 30:
            return house.teach(door, button)
        if chosen < 33:
            return house.lose_cell(button)
        if chosen < 36:
            return house.tear_cell(button)
        if chosen == 36:
            return house.forget_at(door, button)
        if chosen == 37:
            return house.turn_house(HOUSE[chance.randrange(8)])
        if chosen == 38:
            return house.turn_button(button)
        return house.close_ages(chance.randrange(3))

    def new_house(self, chance):
        house = House(MIXED, HOUSE[0])
        for name in self.DOORS:
            near = chance.choice((1, 2, 6))
            house.add_door(name, near, near + chance.choice((0, 5, 30)), chance.choice((2, 3)))
        for name in self.BUTTONS:
            house.add_button(name, chance.choice((1, 3, 8)))
        return house

    def everything(self, house):
        return all_of(house, self.DOORS, self.BUTTONS)

    def test_a_refusal_changes_nothing(self):
        refused = set()
        for seed in range(6):
            chance = random.Random(seed)
            house = self.new_house(chance)
            for k in range(400):
                ahead = self.everything(house)
                try:
                    self.some_deed(house, chance)
                except CodeError as error:
                    refused.add(type(error))
                    self.assertEqual(self.everything(house), ahead)
        self.assertEqual(refused, {Known, Full, Unknown, TooMany, BadPress, Worn})

    def test_counts_never_go_back(self):
        for seed in range(25):
            chance = random.Random(seed)
            house = self.new_house(chance)
            sent_counts = {name: -1 for name in self.BUTTONS}
            seen = 0
            for k in range(150):
                try:
                    self.some_deed(house, chance)
                except CodeError:
                    pass
                keys = house.door_now("x").keys_now()
                for press in house.kept_now()[seen:]:
                    count = read_press(MIXED, keys[press[1]], press)[0]
                    self.assertGreater(count, sent_counts[press[0]])
                    sent_counts[press[0]] = count
                seen = len(house.kept_now())
                for name in self.BUTTONS:
                    self.assertGreater(house.button_now(name)[1], sent_counts[name])

    def test_no_press_is_let_in_twice_nor_an_elder_one(self):
        opened = 0
        for seed in range(40):
            chance = random.Random(seed)
            house = self.new_house(chance)
            for k in range(200):
                try:
                    self.some_deed(house, chance)
                except CodeError:
                    pass
            for name in self.DOORS:
                opened += self.check_log(house.door_now(name))
                numbers = house.opened_by(name)
                self.assertEqual(len(set(numbers)), len(numbers))
        self.assertGreater(opened, 300)

    def check_log(self, door):
        """What was let in of a button rises while it's known; how many there were."""
        lasts, opened = {}, 0
        keys = door.keys_now()
        for row in door.log_now():
            if row[0] == "learn":
                name, age, code = row[2]
                lasts[name] = read_press(MIXED, keys[age], row[2])[0]
            elif row[0] == "forget":
                lasts.pop(row[1])
            elif row[0] == "hear" and row[2][0] == "open":
                name, age, code = row[1]
                count = read_press(MIXED, keys[age], row[1])[0]
                self.assertGreater(count, lasts[name])
                lasts[name] = count
                opened += 1
        return opened

    def test_a_log_replays_to_the_same_door_at_every_point(self):
        for seed in range(6):
            chance = random.Random(seed)
            house = self.new_house(chance)
            for k in range(80):
                try:
                    self.some_deed(house, chance)
                except CodeError:
                    pass
                for name in self.DOORS:
                    door = house.door_now(name)
                    near, far, most = door.bounds_told()
                    twin = replayed(MIXED, HOUSE[:1], near, far, most, door.log_now())
                    self.assertEqual(state_of(twin), state_of(door))
                    short = replayed(MIXED, HOUSE[:1], near, far, most, short_log(door))
                    self.assertEqual(
                        (short.known_now(), short.keys_now(), short.closed_now()),
                        (door.known_now(), door.keys_now(), door.closed_now()))
                    self.assertEqual(
                        len(let_in(MIXED, door.keys_now(), door.log_now())), len(house.opened_by(name)))

    def test_opened_by_is_what_was_let_in(self):
        for seed in range(10):
            chance = random.Random(seed)
            house = self.new_house(chance)
            for k in range(150):
                try:
                    self.some_deed(house, chance)
                except CodeError:
                    pass
            kept = house.kept_now()
            for name in self.DOORS:
                door = house.door_now(name)
                keys = door.keys_now()
                plain = [
                    kept[number][:2] + (read_press(MIXED, keys[kept[number][1]], kept[number])[0],)
                    for number in house.opened_by(name)]
                self.assertEqual(let_in(MIXED, keys, door.log_now()), tuple(plain))


if __name__ == "__main__":
    unittest.main()
