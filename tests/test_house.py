"""Points [15] and [16]: a house, its doors and its buttons."""

import unittest

from rollcode.doors import Door
from rollcode.errors import BadPress, Full, Known, TooMany, Unknown, Worn
from rollcode.house import House
from rollcode.sharing import telling
from tests.samples import HOUSE, MIXED, all_of, check_told, sent, state_of


def new_house(turns=0):
    """A house of so many keys more than the first one."""
    house = House(MIXED, HOUSE[0])
    for age in range(turns):
        house.turn_house(HOUSE[age + 1])
    return house


def furnished():
    """Two doors and two buttons; each door knows the first of these."""
    house = new_house()
    house.add_door("front", 4, 20, 2)
    house.add_door("back", 2, 8, 1)
    house.add_button("gate", 8)
    house.add_button("bell", 16)
    house.teach("front", "gate")
    house.teach("back", "gate")
    return house


def wear(house, button, count):
    """The button is pressed, in nobody's hearing, till its next count is this one."""
    while house.button_now(button)[1] < count:
        house.press_button(button, 0, ())


class AddDoor(unittest.TestCase):
    def test_a_new_one(self):
        house = new_house()
        self.assertIsNone(house.add_door("front", 4, 20, 3))
        self.assertEqual(state_of(house.door_now("front")), state_of(Door(MIXED, HOUSE[:1], 4, 20, 3)))
        self.assertEqual(house.opened_by("front"), ())

    def test_known(self):
        house = furnished()
        ahead = all_of(house, ("front", "back"), ("gate", "bell"))
        self.assertRaises(Known, house.add_door, "front", 1, 1, 1)
        self.assertEqual(all_of(house, ("front", "back"), ("gate", "bell")), ahead)

    def test_doors_and_buttons_are_named_each_by_themselves(self):
        house = new_house()
        house.add_door("gate", 4, 20, 3)
        house.add_button("gate", 8)
        house.teach("gate", "gate")
        self.assertEqual(house.door_now("gate").known_now(), (("gate", 0, 1, None),))

    def test_all_keys_that_there_are(self):
        house = new_house(3)
        house.add_door("front", 4, 20, 3)
        door = house.door_now("front")
        self.assertEqual(door.keys_now(), HOUSE[:4])
        self.assertEqual(door.closed_now(), 0)
        self.assertEqual(door.log_now(), ())

    def test_what_is_closed(self):
        house = new_house(3)
        house.close_ages(2)
        house.close_ages(1)
        house.add_door("front", 4, 20, 3)
        door = house.door_now("front")
        self.assertEqual(door.closed_now(), 2)
        self.assertEqual(door.log_now(), (("close", 2),))

    def test_nothing_is_closed(self):
        house = new_house(3)
        house.close_ages(0)
        house.add_door("front", 4, 20, 3)
        self.assertEqual(house.door_now("front").log_now(), ())


class AddButton(unittest.TestCase):
    def test_a_new_one(self):
        house = new_house()
        self.assertIsNone(house.add_button("gate", 8))
        self.assertEqual(house.button_now("gate"), (0, 0, (0, None)))

    def test_of_the_newest_key(self):
        house = new_house(2)
        house.add_button("gate", 8)
        self.assertEqual(house.button_now("gate"), (2, 0, (0, None)))
        house.press_button("gate", 5, ())
        self.assertEqual(house.kept_now(), (sent("gate", 2, 0, 5),))

    def test_its_step(self):
        house = new_house()
        house.add_button("gate", 5)
        house.press_button("gate", 0, ())
        self.assertEqual(house.button_now("gate"), (0, 1, (0, 5)))

    def test_known(self):
        house = furnished()
        ahead = all_of(house, ("front", "back"), ("gate", "bell"))
        self.assertRaises(Known, house.add_button, "gate", 1)
        self.assertEqual(all_of(house, ("front", "back"), ("gate", "bell")), ahead)


class Teach(unittest.TestCase):
    def setUp(self):
        self.house = new_house()
        self.house.add_door("front", 4, 20, 2)
        self.house.add_button("gate", 8)

    def check_refused(self, refusal, door, button, doors=("front",), buttons=("gate",)):
        ahead = all_of(self.house, doors, buttons)
        with self.assertRaises(refusal) as caught:
            self.house.teach(door, button)
        self.assertEqual(all_of(self.house, doors, buttons), ahead)
        return caught.exception

    def test_two_presses_of_deed_0(self):
        self.assertIsNone(self.house.teach("front", "gate"))
        one, other = sent("gate", 0, 0, 0), sent("gate", 0, 1, 0)
        self.assertEqual(self.house.kept_now(), (one, other))
        door = self.house.door_now("front")
        self.assertEqual(door.known_now(), (("gate", 0, 1, None),))
        self.assertEqual(door.log_now(), (("learn", one, other),))
        self.assertEqual(self.house.button_now("gate"), (0, 2, (0, 8)))
        self.assertEqual(self.house.opened_by("front"), ())

    def test_other_doors_do_not_hear_it(self):
        self.house.add_door("back", 4, 20, 2)
        self.house.teach("front", "gate")
        self.assertEqual(self.house.door_now("back").log_now(), ())

    def test_unknown(self):
        self.check_refused(Unknown, "back", "gate")
        self.check_refused(Unknown, "front", "bell")
        self.check_refused(Unknown, "gate", "front")
        self.check_refused(Unknown, "back", "bell")

    def test_known(self):
        self.house.teach("front", "gate")
        self.check_refused(Known, "front", "gate")

    def test_full(self):
        for name in ("a", "b"):
            self.house.add_button(name, 1)
            self.house.teach("front", name)
        self.check_refused(Full, "front", "gate", buttons=("gate", "a", "b"))
        self.house.forget_at("front", "a")
        self.house.teach("front", "gate")

    def test_known_ahead_of_full(self):
        for name in ("a", "b"):
            self.house.add_button(name, 1)
            self.house.teach("front", name)
        self.check_refused(Known, "front", "b")

    def test_worn(self):
        wear(self.house, "gate", 4095)
        self.check_refused(Worn, "front", "gate")
        wear(self.house, "gate", 4096)
        self.check_refused(Worn, "front", "gate")

    def test_the_last_two_counts(self):
        wear(self.house, "gate", 4094)
        self.house.teach("front", "gate")
        self.assertEqual(self.house.door_now("front").known_now(), (("gate", 0, 4095, None),))
        self.assertEqual(self.house.button_now("gate")[1], 4096)

    def test_a_closed_age(self):
        self.house.turn_house(HOUSE[1])
        self.house.close_ages(1)
        error = self.check_refused(BadPress, "front", "gate")
        self.assertEqual(error.place, 0)
        self.house.turn_button("gate")
        self.house.teach("front", "gate")
        self.assertEqual(self.house.door_now("front").known_now(), (("gate", 1, 1, None),))

    def test_where_several_are_due(self):
        house = self.house
        house.add_button("a", 1)
        house.add_button("b", 1)
        house.teach("front", "a")
        house.teach("front", "b")
        wear(house, "gate", 4096)
        house.turn_house(HOUSE[1])
        house.close_ages(1)
        # Full, Worn, BadPress.
        self.check_refused(Full, "front", "gate")
        house.forget_at("front", "a")
        # Worn, BadPress.
        self.check_refused(Worn, "front", "gate")
        # Known, BadPress.
        self.check_refused(Known, "front", "b")
        # Unknown and all else.
        self.check_refused(Unknown, "back", "gate")

    def test_known_ahead_of_worn(self):
        self.house.teach("front", "gate")
        wear(self.house, "gate", 4096)
        self.check_refused(Known, "front", "gate")


class PressButton(unittest.TestCase):
    def setUp(self):
        self.house = furnished()

    def check_refused(self, refusal, *handed):
        ahead = all_of(self.house, ("front", "back"), ("gate", "bell"))
        self.assertRaises(refusal, self.house.press_button, *handed)
        self.assertEqual(all_of(self.house, ("front", "back"), ("gate", "bell")), ahead)

    def test_in_the_hearing_of_none(self):
        self.assertEqual(self.house.press_button("gate", 3, ()), (4, ()))
        self.assertEqual(self.house.press_button("gate", 3, []), (5, ()))
        self.assertEqual(self.house.kept_now()[4:], (sent("gate", 0, 4, 3), sent("gate", 0, 5, 3)))
        self.assertEqual(self.house.opened_by("front"), ())

    def test_in_the_hearing_of_one(self):
        self.assertEqual(self.house.press_button("gate", 3, ("back",)), (4, (("open", "gate", 3),)))
        self.assertEqual(self.house.opened_by("back"), (4,))
        self.assertEqual(self.house.opened_by("front"), ())

    def test_of_one_twice(self):
        told = self.house.press_button("gate", 3, ("back", "back"))
        self.assertEqual(told, (4, (("open", "gate", 3), ("held", "old"))))
        self.assertEqual(self.house.opened_by("back"), (4,))

    def test_of_several_in_that_order(self):
        wear(self.house, "gate", 7)
        told = self.house.press_button("gate", 9, ["back", "front", "back"])
        # The back door learnt 2 and 3, the front door 0 and 1.
        self.assertEqual(told, (7, (("held", "far"), ("held", "far"), ("held", "far"))))
        told = self.house.press_button("gate", 9, ["front", "back", "front"])
        self.assertEqual(told, (8, (("open", "gate", 9), ("open", "gate", 9), ("held", "old"))))
        self.assertEqual(self.house.opened_by("front"), (8,))
        check_told(self, told)

    def test_numbers_one_behind_the_other(self):
        for k in range(4, 20):
            button = ("gate", "bell")[k % 2]
            self.assertEqual(self.house.press_button(button, k % 16, ("front",))[0], k)
        self.assertEqual(len(self.house.kept_now()), 20)

    def test_a_button_that_the_door_does_not_know(self):
        self.assertEqual(self.house.press_button("bell", 0, ("front",)), (4, (("held", "unknown"),)))

    def test_unknown(self):
        self.check_refused(Unknown, "front", 0, ())
        self.check_refused(Unknown, "gate", 0, ("gate",))
        self.check_refused(Unknown, "gate", 0, ("front", "side"))
        self.check_refused(Unknown, "gate", 0, ("side", "front"))
        self.check_refused(Unknown, "other", 0, ("side",))

    def test_worn(self):
        wear(self.house, "gate", 4096)
        self.check_refused(Worn, "gate", 0, ())
        self.check_refused(Worn, "gate", 0, ("front",))

    def test_unknown_ahead_of_worn(self):
        wear(self.house, "gate", 4096)
        self.check_refused(Unknown, "gate", 0, ("side",))

    def test_the_doors_that_are_handed_in_stay(self):
        doors = ["front", "back"]
        self.house.press_button("gate", 0, doors)
        self.assertEqual(doors, ["front", "back"])


class PlayKept(unittest.TestCase):
    def setUp(self):
        self.house = furnished()
        self.house.press_button("gate", 3, ("front",))
        self.house.press_button("gate", 4, ())

    def check_refused(self, refusal, number, door):
        ahead = all_of(self.house, ("front", "back"), ("gate", "bell"))
        with self.assertRaises(refusal) as caught:
            self.house.play_kept(number, door)
        self.assertEqual(all_of(self.house, ("front", "back"), ("gate", "bell")), ahead)
        return caught.exception

    def test_numbers_there_are(self):
        self.assertEqual(self.house.play_kept(4, "front"), ("held", "old"))
        self.assertEqual(self.house.play_kept(0, "front"), ("held", "old"))
        self.assertEqual(self.house.play_kept(5, "back"), ("open", "gate", 4))
        self.assertEqual(self.house.play_kept(4, "back"), ("held", "old"))
        self.assertEqual(self.house.play_kept(5, "front"), ("open", "gate", 4))
        self.assertEqual(self.house.opened_by("front"), (4, 5))
        self.assertEqual(self.house.opened_by("back"), (5,))

    def test_nothing_more_is_kept(self):
        ahead = self.house.kept_now()
        self.house.play_kept(5, "back")
        self.assertEqual(self.house.kept_now(), ahead)
        self.assertEqual(self.house.press_button("gate", 0, ())[0], 6)

    def test_those_of_teach(self):
        # The back door learnt by numbers 2 and 3, which the front door hears as new.
        self.assertEqual(self.house.play_kept(2, "back"), ("held", "old"))
        house = furnished()
        self.assertEqual(house.play_kept(2, "front"), ("open", "gate", 0))
        self.assertEqual(house.opened_by("front"), (2,))

    def test_numbers_there_are_not(self):
        for number in (6, 7, 100, 9999, -1, -2, -6):
            error = self.check_refused(BadPress, number, "front")
            self.assertEqual(error.place, number)
        house = new_house()
        house.add_door("front", 4, 20, 3)
        self.assertRaises(BadPress, house.play_kept, 0, "front")

    def test_unknown_goes_first(self):
        self.check_refused(Unknown, 4, "side")
        self.check_refused(Unknown, 6, "side")
        self.check_refused(Unknown, 4, "gate")


class Cells(unittest.TestCase):
    def setUp(self):
        self.house = new_house()
        self.house.add_button("gate", 8)

    def test_lose(self):
        self.house.press_button("gate", 0, ())
        self.assertIsNone(self.house.lose_cell("gate"))
        self.assertEqual(self.house.button_now("gate"), (0, 8, (0, 8)))

    def test_tear(self):
        self.house.press_button("gate", 0, ())
        self.assertIsNone(self.house.tear_cell("gate"))
        # No write was due.
        self.assertEqual(self.house.button_now("gate"), (0, 8, (0, 8)))
        self.house.tear_cell("gate")
        self.assertEqual(self.house.button_now("gate"), (0, 8, (None, 8)))

    def test_lose_leaves_the_cells(self):
        self.house.press_button("gate", 0, ())
        for k in range(3):
            self.house.lose_cell("gate")
            self.assertEqual(self.house.button_now("gate"), (0, 8, (0, 8)))

    def test_unknown(self):
        ahead = all_of(self.house, (), ("gate",))
        self.assertRaises(Unknown, self.house.lose_cell, "bell")
        self.assertRaises(Unknown, self.house.tear_cell, "bell")
        self.assertEqual(all_of(self.house, (), ("gate",)), ahead)


class Keys(unittest.TestCase):
    def test_turn_house(self):
        house = furnished()
        self.assertIsNone(house.turn_house(HOUSE[1]))
        for name in ("front", "back"):
            door = house.door_now(name)
            self.assertEqual(door.keys_now(), HOUSE[:2])
            self.assertEqual(door.log_now()[-1], ("turn", HOUSE[1]))
        # Buttons stay as they are.
        self.assertEqual(house.button_now("gate")[0], 0)
        house.add_door("side", 4, 20, 3)
        self.assertEqual(house.door_now("side").keys_now(), HOUSE[:2])
        house.add_button("other", 4)
        self.assertEqual(house.button_now("other")[0], 1)

    def test_up_to_eight(self):
        house = new_house(7)
        house.add_door("front", 4, 20, 3)
        self.assertEqual(house.door_now("front").keys_now(), HOUSE)
        ahead = all_of(house, ("front",), ())
        self.assertRaises(TooMany, house.turn_house, (1,))
        self.assertEqual(all_of(house, ("front",), ()), ahead)
        bare = new_house(7)
        self.assertRaises(TooMany, bare.turn_house, (1,))

    def test_a_key_as_a_list(self):
        house = new_house()
        house.add_door("front", 4, 20, 3)
        key = list(HOUSE[1])
        house.turn_house(key)
        key.append(9)
        house.add_door("back", 4, 20, 3)
        house.add_button("gate", 3)
        house.press_button("gate", 2, ())
        for name in ("front", "back"):
            self.assertEqual(house.door_now(name).keys_now(), HOUSE[:2])
            check_told(self, state_of(house.door_now(name)))
        self.assertEqual(house.kept_now(), (sent("gate", 1, 0, 2),))

    def test_a_house_of_lists(self):
        table, key = list(MIXED), list(HOUSE[0])
        house = House(table, key)
        table[0], table[1] = table[1], table[0]
        key.append(5)
        house.add_door("front", 4, 20, 3)
        house.add_button("gate", 3)
        self.assertEqual(house.door_now("front").keys_now(), HOUSE[:1])
        self.assertEqual(house.door_now("front").table_told(), MIXED)
        house.press_button("gate", 2, ())
        self.assertEqual(house.kept_now(), (sent("gate", 0, 0, 2),))

    def test_turn_button(self):
        house = furnished()
        house.turn_house(HOUSE[1])
        house.turn_house(HOUSE[2])
        self.assertIsNone(house.turn_button("gate"))
        self.assertEqual(house.button_now("gate"), (1, 4, (0, 8)))
        self.assertEqual(house.press_button("gate", 3, ("front",)), (4, (("open", "gate", 3),)))
        self.assertEqual(house.kept_now()[4], sent("gate", 1, 4, 3))
        house.turn_button("gate")
        self.assertEqual(house.press_button("gate", 3, ("front",)), (5, (("open", "gate", 3),)))
        self.assertEqual(house.kept_now()[5], sent("gate", 2, 5, 3))
        self.assertEqual(house.button_now("bell")[0], 0)

    def test_turn_button_where_there_is_no_newer_key(self):
        house = furnished()
        ahead = all_of(house, ("front", "back"), ("gate", "bell"))
        self.assertRaises(Worn, house.turn_button, "gate")
        self.assertRaises(Unknown, house.turn_button, "front")
        self.assertEqual(all_of(house, ("front", "back"), ("gate", "bell")), ahead)
        house.turn_house(HOUSE[1])
        house.turn_button("gate")
        self.assertRaises(Worn, house.turn_button, "gate")

    def test_turn_button_up_to_the_newest_of_eight(self):
        house = new_house()
        house.add_button("gate", 8)
        for age in range(1, 8):
            house.turn_house(HOUSE[age])
            house.turn_button("gate")
        self.assertEqual(house.button_now("gate")[0], 7)
        self.assertRaises(Worn, house.turn_button, "gate")

    def test_close_ages(self):
        house = furnished()
        house.turn_house(HOUSE[1])
        self.assertIsNone(house.close_ages(1))
        for name in ("front", "back"):
            self.assertEqual(house.door_now(name).closed_now(), 1)
            self.assertEqual(house.door_now(name).log_now()[-1], ("close", 1))
        self.assertEqual(house.press_button("gate", 3, ("front",)), (4, (("held", "age"),)))
        house.turn_button("gate")
        self.assertEqual(house.press_button("gate", 3, ("front",)), (5, (("open", "gate", 3),)))

    def test_close_ages_that_are_closed(self):
        house = new_house(3)
        house.add_door("front", 4, 20, 3)
        for age in (2, 1, 0, 3):
            house.close_ages(age)
        self.assertEqual(house.door_now("front").log_now(), tuple(("close", age) for age in (2, 1, 0, 3)))
        house.add_door("back", 4, 20, 3)
        self.assertEqual(house.door_now("back").log_now(), (("close", 3),))

    def test_close_ages_of_no_key(self):
        house = new_house(2)
        house.add_door("front", 4, 20, 3)
        ahead = all_of(house, ("front",), ())
        for age in (3, 4, 7, 8, -1, -3):
            self.assertRaises(Unknown, house.close_ages, age)
        self.assertEqual(all_of(house, ("front",), ()), ahead)
        house.add_door("back", 4, 20, 3)
        self.assertEqual(house.door_now("back").log_now(), ())
        house.close_ages(2)
        self.assertEqual(house.door_now("front").closed_now(), 2)


class ForgetAt(unittest.TestCase):
    def test_forget(self):
        house = furnished()
        self.assertIsNone(house.forget_at("front", "gate"))
        self.assertEqual(house.door_now("front").known_now(), ())
        self.assertEqual(house.door_now("front").log_now()[-1], ("forget", "gate"))
        self.assertEqual(house.door_now("back").known_now(), (("gate", 0, 3, None),))
        self.assertEqual(house.press_button("gate", 0, ("front",)), (4, (("held", "unknown"),)))
        house.teach("front", "gate")
        self.assertEqual(house.door_now("front").known_now(), (("gate", 0, 6, None),))

    def test_unknown(self):
        house = furnished()
        ahead = all_of(house, ("front", "back"), ("gate", "bell"))
        for door, button in (("side", "gate"), ("front", "other"), ("front", "bell"), ("gate", "front")):
            self.assertRaises(Unknown, house.forget_at, door, button)
        self.assertEqual(all_of(house, ("front", "back"), ("gate", "bell")), ahead)


class Asked(unittest.TestCase):
    def test_door_now_is_a_twin(self):
        house = furnished()
        house.press_button("gate", 1, ("front",))
        ahead = all_of(house, ("front", "back"), ("gate", "bell"))
        twin = house.door_now("front")
        self.assertEqual(twin.hear(sent("gate", 0, 5, 7)), ("open", "gate", 7))
        twin.forget("gate")
        twin.turn_key(HOUSE[1])
        twin.close_below(1)
        self.assertEqual(all_of(house, ("front", "back"), ("gate", "bell")), ahead)
        twin = house.door_now("front")
        told = state_of(twin)
        house.forget_at("front", "gate")
        self.assertEqual(state_of(twin), told)

    def test_kept_now(self):
        house = furnished()
        self.assertEqual(
            house.kept_now(), tuple(sent("gate", 0, count) for count in (0, 1, 2, 3)))
        told = house.kept_now()
        house.press_button("bell", 9, ("front",))
        self.assertEqual(len(told), 4)
        self.assertEqual(house.kept_now(), told + (sent("bell", 0, 0, 9),))
        self.assertEqual(new_house().kept_now(), ())

    def test_opened_by_in_order(self):
        house = new_house()
        house.add_door("front", 4, 20, 3)
        for name in ("a", "b"):
            house.add_button(name, 8)
            house.teach("front", name)
        for name in ("a", "b", "a", "b"):
            house.press_button(name, 0, ())
        for number in (7, 6, 5, 4, 6):
            house.play_kept(number, "front")
        # 5 and 4 are old behind 7 and 6.
        self.assertEqual(house.opened_by("front"), (7, 6))
        told = house.opened_by("front")
        house.press_button("a", 0, ("front",))
        self.assertEqual(told, (7, 6))
        self.assertEqual(house.opened_by("front"), (7, 6, 8))

    def test_apart_now(self):
        house = new_house()
        self.assertEqual(house.apart_now(), ())
        house.add_door("m", 4, 20, 3)
        self.assertEqual(house.apart_now(), ())
        house.add_door("b", 4, 21, 3)
        self.assertEqual(house.apart_now(), (("b", "m", None),))
        house.add_button("gate", 8)
        house.teach("m", "gate")
        self.assertEqual(house.apart_now(), (("b", "m", (("gate", 0, 2),)),))
        house.add_door("z", 2, 20, 3)
        house.teach("b", "gate")
        self.assertEqual(house.apart_now(), (
            ("b", "m", (("gate", 0, 2),)), ("b", "z", (("gate", 0, 4),)), ("m", "z", (("gate", 0, 2),))))
        house.press_button("gate", 0, ("b", "m"))
        self.assertEqual(house.apart_now()[0], ("b", "m", (("gate", 0, 24), ("gate", 0, 25))))
        check_told(self, house.apart_now())

    def test_apart_now_by_telling(self):
        house = new_house()
        names = ("d", "a", "c", "b")
        for k, name in enumerate(names):
            house.add_door(name, 2, 6 + k // 2, 3)
        house.add_button("gate", 8)
        for name in names:
            house.teach(name, "gate")
        house.press_button("gate", 0, ("a", "c"))
        told = house.apart_now()
        self.assertEqual(
            [row[:2] for row in told],
            [("a", "b"), ("a", "c"), ("a", "d"), ("b", "c"), ("b", "d"), ("c", "d")])
        for one, other, row in told:
            self.assertEqual(row, telling(house.door_now(one), house.door_now(other)))

    def test_unheard(self):
        house = furnished()
        self.assertEqual(house.unheard("front", "gate"), 1)
        wear(house, "gate", 9)
        self.assertEqual(house.unheard("front", "gate"), 2)
        self.assertEqual(house.unheard("back", "gate"), 2)
        wear(house, "gate", 13)
        self.assertIsNone(house.unheard("back", "gate"))
        self.assertIsNone(house.unheard("front", "bell"))
        # Of the age that the button has now.
        house.turn_house(HOUSE[1])
        house.close_ages(1)
        self.assertIsNone(house.unheard("front", "gate"))
        house.turn_button("gate")
        self.assertEqual(house.unheard("front", "gate"), 2)

    def test_unheard_by_what_waits(self):
        house = furnished()
        wear(house, "gate", 9)
        self.assertEqual(house.press_button("gate", 0, ("front",)), (9, (("held", "far"),)))
        self.assertEqual(house.unheard("front", "gate"), 1)
        self.assertEqual(house.press_button("gate", 0, ("front",)), (10, (("open", "gate", 0),)))

    def test_unknown(self):
        house = furnished()
        ahead = all_of(house, ("front", "back"), ("gate", "bell"))
        for ask, handed in (
                (house.door_now, ("gate",)), (house.button_now, ("front",)), (house.opened_by, ("side",)),
                (house.unheard, ("side", "gate")), (house.unheard, ("front", "other")),
                (house.unheard, ("gate", "front"))):
            self.assertRaises(Unknown, ask, *handed)
        self.assertEqual(all_of(house, ("front", "back"), ("gate", "bell")), ahead)

    def test_asked_twice_it_is_told_the_same(self):
        house = furnished()
        house.press_button("gate", 1, ("front", "back"))
        told = all_of(house, ("front", "back"), ("gate", "bell"))
        check_told(self, told)
        house.unheard("front", "gate")
        self.assertEqual(all_of(house, ("front", "back"), ("gate", "bell")), told)

    def test_houses_are_each_by_themselves(self):
        one, other = furnished(), furnished()
        ahead = all_of(other, ("front", "back"), ("gate", "bell"))
        one.press_button("gate", 1, ("front", "back"))
        one.turn_house(HOUSE[1])
        one.close_ages(1)
        self.assertEqual(all_of(other, ("front", "back"), ("gate", "bell")), ahead)


if __name__ == "__main__":
    unittest.main()
