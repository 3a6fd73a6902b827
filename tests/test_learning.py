"""Point [8]: learn, forget, turn_key, close_below, twin_door; and [2] as far as it reaches them."""

import unittest

from rollcode.buttons import Button
from rollcode.doors import Door
from rollcode.errors import BadPress, Full, Known, TooMany, Unknown
from tests.samples import (
    HOUSE, MIXED, door_with, new_door, sent, state_of, teach, wrong_sum)


class Refusals(unittest.TestCase):
    def check_refused(self, door, refusal, ask, *handed):
        """Refused by just this class, and nothing is changed; the error is told."""
        ahead = state_of(door)
        with self.assertRaises(refusal) as caught:
            ask(*handed)
        self.assertIs(type(caught.exception), refusal)
        self.assertEqual(state_of(door), ahead)
        return caught.exception

    def check_bad(self, door, place, one, other):
        error = self.check_refused(door, BadPress, door.learn, one, other)
        self.assertIs(type(error.place), int)
        self.assertEqual(error.place, place)


class Learn(Refusals):
    def test_known_by_one_s_age_and_other_s_count(self):
        for name in ("a", "gate", "zzzzzzzz"):
            for age in (0, 1):
                for count in (0, 1, 255, 4094):
                    door = new_door()
                    told = door.learn(sent(name, age, count, 3), sent(name, age, count + 1, 9))
                    self.assertIs(told, None)
                    self.assertEqual(door.known_now(), ((name, age, count + 1, None),))

    def test_two_presses_of_a_button(self):
        button = Button("gate", MIXED, HOUSE[0], 0, 8)
        door = new_door()
        door.learn(button.press_once(0), button.press_once(0))
        self.assertEqual(door.known_now(), (("gate", 0, 1, None),))
        self.assertEqual(door.hear(button.press_once(4)), ("open", "gate", 4))

    def test_what_was_learnt_by_is_old(self):
        door = new_door()
        one, other = sent("gate", 0, 5), sent("gate", 0, 6)
        door.learn(one, other)
        self.assertEqual(door.hear(one), ("held", "old"))
        self.assertEqual(door.hear(other), ("held", "old"))
        self.assertEqual(door.hear(sent("gate", 0, 7)), ("open", "gate", 0))

    def test_one_that_is_not_right(self):
        door = new_door()
        other = sent("gate", 0, 6)
        for one in (None, 5, "gate", (), list(sent("gate", 0, 5)), wrong_sum("gate", 0, 5)):
            self.check_bad(door, 0, one, other)
        for age in (-1, 2, 7, 10 ** 30):
            self.check_bad(door, 0, ("gate", age, sent("gate", 0, 5)[2]), other)

    def test_other_that_is_not_right(self):
        door = new_door()
        one = sent("gate", 0, 5)
        for other in (None, 5, "gate", (), list(sent("gate", 0, 6)), wrong_sum("gate", 0, 6)):
            self.check_bad(door, 1, one, other)
        for age in (-1, 2, 7, 10 ** 30):
            self.check_bad(door, 1, one, ("gate", age, sent("gate", 0, 6)[2]))

    def test_place_0_where_both_are_not_right(self):
        door = new_door()
        for wrong in (None, (), "gate", wrong_sum("gate", 0, 5), sent("gate", 2, 5)):
            for other in (None, (), wrong_sum("gate", 0, 6), sent("gate", 2, 6)):
                self.check_bad(door, 0, wrong, other)

    def test_of_another_name(self):
        door = new_door()
        for name in ("a", "gat", "gates", "other"):
            self.check_bad(door, 1, sent("gate", 0, 5), sent(name, 0, 6))

    def test_of_another_name_with_the_same_key(self):
        self.assertEqual(sent("a", 0, 6)[2], sent("aa", 0, 6)[2])
        self.check_bad(new_door(), 1, sent("a", 0, 5), sent("aa", 0, 6))

    def test_of_another_age(self):
        door = new_door()
        self.check_bad(door, 1, sent("gate", 0, 5), sent("gate", 1, 6))
        self.check_bad(door, 1, sent("gate", 1, 5), sent("gate", 0, 6))

    def test_of_another_age_with_the_same_key(self):
        door = Door(MIXED, (HOUSE[0], HOUSE[0]), 4, 20, 3)
        code = sent("gate", 0, 6)[2]
        self.check_bad(door, 1, sent("gate", 0, 5), ("gate", 1, code))

    def test_a_count_that_is_not_one_more(self):
        door = new_door()
        for count in (0, 3, 4, 5, 7, 8, 21, 4095):
            self.check_bad(door, 1, sent("gate", 0, 5), sent("gate", 0, count))
        self.check_bad(door, 1, sent("gate", 0, 4095), sent("gate", 0, 0))
        self.check_bad(door, 1, sent("gate", 0, 4095), sent("gate", 0, 4095))

    def test_a_closed_age(self):
        door = new_door(many=3)
        door.close_below(1)
        self.check_bad(door, 0, sent("gate", 0, 5), sent("gate", 0, 6))
        self.check_bad(door, 0, sent("gate", 0, 5), sent("gate", 1, 6))
        self.check_bad(door, 1, sent("gate", 1, 5), sent("gate", 0, 6))
        door.learn(sent("gate", 1, 5), sent("gate", 1, 6))
        self.assertEqual(door.known_now(), (("gate", 1, 6, None),))

    def test_known(self):
        door = door_with("gate", 0, 10)
        for age, count in ((0, 9), (0, 20), (1, 9), (1, 4094), (0, 0)):
            self.check_refused(
                door, Known, door.learn, sent("gate", age, count), sent("gate", age, count + 1))

    def test_known_leaves_what_waits(self):
        door = door_with("gate", 0, 10)
        door.hear(sent("gate", 0, 20))
        self.check_refused(door, Known, door.learn, sent("gate", 0, 20), sent("gate", 0, 21))
        self.assertEqual(door.known_now(), (("gate", 0, 10, (0, 20)),))

    def test_full(self):
        names = "abcdefghijklm"
        for most in range(1, 13):
            door = new_door(most=most)
            for name in names[:most]:
                teach(door, name, 0, 5)
            late = names[most]
            self.check_refused(door, Full, door.learn, sent(late, 0, 5), sent(late, 0, 6))
            self.assertEqual(len(door.known_now()), most)

    def test_bad_ahead_of_known_and_full(self):
        door = door_with("gate", 0, 10, most=1)
        self.check_bad(door, 0, wrong_sum("gate", 0, 11), sent("gate", 0, 12))
        self.check_bad(door, 1, sent("gate", 0, 11), wrong_sum("gate", 0, 12))
        self.check_bad(door, 1, sent("gate", 0, 11), sent("gate", 0, 13))
        self.check_bad(door, 0, wrong_sum("other", 0, 11), sent("other", 0, 12))
        self.check_bad(door, 1, sent("other", 0, 11), sent("other", 1, 12))
        self.check_bad(door, 1, sent("gate", 0, 11), sent("other", 0, 12))
        self.check_bad(door, 1, sent("other", 0, 11), sent("gate", 0, 12))

    def test_known_ahead_of_full(self):
        door = door_with("gate", 0, 10, most=1)
        self.check_refused(door, Known, door.learn, sent("gate", 0, 11), sent("gate", 0, 12))
        self.check_refused(door, Full, door.learn, sent("other", 0, 11), sent("other", 0, 12))


class Forget(Refusals):
    def test_a_button_that_is_forgotten_opens_nothing(self):
        door = door_with("gate", 0, 10)
        self.assertIs(door.forget("gate"), None)
        self.assertEqual(door.known_now(), ())
        for count in (9, 10, 11, 12, 20, 21, 22):
            self.assertEqual(door.hear(sent("gate", 0, count)), ("held", "unknown"))

    def test_that_one_alone(self):
        door = door_with("gate", 0, 10)
        teach(door, "other", 1, 20)
        door.hear(sent("other", 1, 30))
        door.forget("gate")
        self.assertEqual(door.known_now(), (("other", 1, 20, (1, 30)),))
        self.assertEqual(door.hear(sent("other", 1, 31)), ("open", "other", 0))

    def test_unknown(self):
        door = new_door()
        self.check_refused(door, Unknown, door.forget, "gate")
        door = door_with("gate", 0, 10)
        for name in ("", "a", "gat", "gates", "GATE", "gate ", "gate\n"):
            self.check_refused(door, Unknown, door.forget, name)
        door.forget("gate")
        self.check_refused(door, Unknown, door.forget, "gate")

    def test_learnt_anew(self):
        door = door_with("gate", 1, 10)
        door.hear(sent("gate", 1, 20))
        door.forget("gate")
        # Nothing of the elder time counts: neither age, last nor what waits.
        teach(door, "gate", 0, 5)
        self.assertEqual(door.known_now(), (("gate", 0, 5, None),))
        self.assertEqual(door.hear(sent("gate", 0, 21)), ("held", "far"))
        self.assertEqual(door.hear(sent("gate", 0, 6)), ("open", "gate", 0))

    def test_its_place_is_free(self):
        door = door_with("gate", 0, 10, most=1)
        door.forget("gate")
        teach(door, "other", 0, 10)
        self.check_refused(door, Full, door.learn, sent("gate", 0, 9), sent("gate", 0, 10))


class TurnKey(Refusals):
    def test_up_to_eight_keys_then_too_many(self):
        for many in range(1, 9):
            door = new_door(many=many)
            for age in range(many, 8):
                self.assertIs(door.turn_key(HOUSE[age]), None)
                self.assertEqual(door.keys_now(), HOUSE[:age + 1])
            self.check_refused(door, TooMany, door.turn_key, (5,))

    def test_presses_of_the_new_age(self):
        door = door_with("gate", 0, 10, many=1)
        self.assertEqual(door.hear(sent("gate", 1, 11)), ("held", "age"))
        self.check_bad(door, 0, sent("other", 1, 4), sent("other", 1, 5))
        door.turn_key(HOUSE[1])
        self.assertEqual(door.hear(sent("gate", 1, 11)), ("open", "gate", 0))
        teach(door, "other", 1, 5)
        self.assertEqual(
            door.known_now(), (("gate", 1, 11, None), ("other", 1, 5, None)))

    def test_all_ages_are_heard(self):
        door = door_with("gate", 0, 10, many=1)
        for age in range(1, 8):
            door.turn_key(HOUSE[age])
            self.assertEqual(door.hear(sent("gate", age, 10 + age)), ("open", "gate", 0))
            self.assertEqual(door.hear(sent("gate", age - 1, 11 + age)), ("held", "age"))

    def test_what_is_known_stays(self):
        door = door_with("gate", 0, 10)
        door.hear(sent("gate", 0, 20))
        door.turn_key(HOUSE[2])
        self.assertEqual(door.known_now(), (("gate", 0, 10, (0, 20)),))
        self.assertEqual(door.closed_now(), 0)
        self.assertEqual(door.hear(sent("gate", 0, 21)), ("open", "gate", 0))

    def test_a_list_that_is_changed_behind(self):
        door = door_with("gate", 0, 10, many=1)
        key = list(HOUSE[1])
        door.turn_key(key)
        key.append(3)
        key[0] = 0
        self.assertEqual(door.keys_now(), HOUSE[:2])
        self.assertEqual(door.log_now()[-1], ("turn", HOUSE[1]))
        self.assertEqual(door.hear(sent("gate", 1, 11)), ("open", "gate", 0))


class CloseBelow(Refusals):
    def test_ages_below_are_closed(self):
        for age in range(8):
            door = door_with("gate", 0, 10, many=8)
            self.assertIs(door.close_below(age), None)
            self.assertEqual(door.closed_now(), age)
            for below in range(age):
                self.assertEqual(door.hear(sent("gate", below, 11)), ("held", "age"))
            self.assertEqual(door.hear(sent("gate", age, 11)), ("open", "gate", 0))

    def test_for_good(self):
        door = door_with("gate", 0, 10, many=8)
        door.close_below(3)
        for age in (3, 2, 1, 0):
            door.close_below(age)
            self.assertEqual(door.closed_now(), 3)
            self.assertEqual(door.hear(sent("gate", 2, 11)), ("held", "age"))
        door.close_below(5)
        self.assertEqual(door.closed_now(), 5)
        door.close_below(4)
        self.assertEqual(door.closed_now(), 5)

    def test_what_is_known_stays(self):
        door = door_with("gate", 0, 10, many=3)
        door.hear(sent("gate", 0, 20))
        door.close_below(2)
        self.assertEqual(door.known_now(), (("gate", 0, 10, (0, 20)),))
        self.assertEqual(door.keys_now(), HOUSE[:3])
        door.forget("gate")
        self.check_bad(door, 0, sent("gate", 1, 9), sent("gate", 1, 10))

    def test_keys_that_are_turned_later(self):
        door = door_with("gate", 0, 10, many=2)
        door.close_below(1)
        door.turn_key(HOUSE[2])
        self.assertEqual(door.closed_now(), 1)
        door.close_below(2)
        self.assertEqual(door.closed_now(), 2)
        self.assertEqual(door.hear(sent("gate", 1, 11)), ("held", "age"))
        self.assertEqual(door.hear(sent("gate", 2, 11)), ("open", "gate", 0))


class Twin(Refusals):
    def busy_door(self):
        door = door_with("gate", 0, 10, many=2)
        teach(door, "other", 1, 20)
        door.turn_key(HOUSE[2])
        door.close_below(1)
        door.hear(sent("gate", 1, 25))
        door.hear(sent("other", 1, 21))
        return door

    def test_the_same_in_all(self):
        for door in (new_door(), new_door(8, 64, 1024, 12), self.busy_door()):
            twin = door.twin_door()
            self.assertIs(type(twin), Door)
            self.assertIsNot(twin, door)
            self.assertEqual(state_of(twin), state_of(door))

    def test_answers_alike(self):
        door = self.busy_door()
        twin = door.twin_door()
        presses = [sent("gate", 1, count) for count in (26, 27, 25, 60, 46, 47)]
        presses += [sent("other", 2, 22), sent("other", 1, 23), sent("gate", 0, 48), None]
        for press in presses:
            self.assertEqual(twin.hear(press), door.hear(press))
        self.assertEqual(state_of(twin), state_of(door))

    def do_all(self, door):
        door.hear(sent("gate", 1, 26))
        door.hear(sent("other", 2, 40))
        door.forget("other")
        teach(door, "third", 2, 7)
        door.turn_key(HOUSE[3])
        door.close_below(2)

    def test_each_goes_on_by_itself(self):
        door = self.busy_door()
        twin = door.twin_door()
        ahead = state_of(door)
        self.do_all(twin)
        self.assertEqual(state_of(door), ahead)
        behind = state_of(twin)
        self.assertNotEqual(behind, ahead)
        self.do_all(door)
        self.assertEqual(state_of(door), behind)
        door.forget("gate")
        self.assertEqual(state_of(twin), behind)

    def test_refuses_alike(self):
        twin = door_with("gate", 0, 10, many=8, most=1).twin_door()
        self.check_refused(twin, Known, twin.learn, sent("gate", 0, 11), sent("gate", 0, 12))
        self.check_refused(twin, Full, twin.learn, sent("other", 0, 11), sent("other", 0, 12))
        self.check_refused(twin, TooMany, twin.turn_key, (5,))
        self.check_refused(twin, Unknown, twin.forget, "other")

    def test_a_twin_of_a_twin(self):
        door = self.busy_door()
        first = door.twin_door()
        second = first.twin_door()
        first.hear(sent("gate", 1, 26))
        self.assertEqual(state_of(second), state_of(door))
        self.assertEqual(second.hear(sent("gate", 1, 26)), ("open", "gate", 0))
        self.assertEqual(state_of(second), state_of(first))


if __name__ == "__main__":
    unittest.main()
