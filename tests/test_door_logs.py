"""Point [14], its first sentence: log_now of a Door."""

import unittest

from rollcode.errors import BadPress, Full, Known, TooMany, Unknown
from tests.samples import HOUSE, check_told, door_with, new_door, sent, teach, wrong_sum


def learnt(name, age, last):
    return ("learn", sent(name, age, last - 1), sent(name, age, last))


class EachDeed(unittest.TestCase):
    def test_none_at_first(self):
        self.assertEqual(new_door().log_now(), ())

    def test_learn(self):
        door = new_door()
        one, other = sent("gate", 1, 4, 7), sent("gate", 1, 5, 8)
        door.learn(one, other)
        self.assertEqual(door.log_now(), (("learn", one, other),))

    def test_forget(self):
        door = door_with("gate", 0, 10)
        door.forget("gate")
        self.assertEqual(door.log_now(), (learnt("gate", 0, 10), ("forget", "gate")))

    def test_turn(self):
        door = new_door()
        door.turn_key(HOUSE[2])
        door.turn_key(list(HOUSE[3]))
        self.assertEqual(door.log_now(), (("turn", HOUSE[2]), ("turn", HOUSE[3])))
        check_told(self, door.log_now())

    def test_close_also_where_nothing_is_closed_by_it(self):
        door = new_door(many=4)
        for age in (0, 2, 2, 1, 0, 3):
            door.close_below(age)
        self.assertEqual(
            door.log_now(), tuple([("close", age) for age in (0, 2, 2, 1, 0, 3)]))

    def test_each_hearing_with_its_answer(self):
        door = door_with("gate", 0, 10)
        rows = [learnt("gate", 0, 10)]
        for press, answer in (
            (sent("other", 0, 11), ("held", "unknown")),
            (("other", -1, (0, 0, 0, 0, 0)), ("held", "unknown")),
            (("gate", 5, (0, 0, 0, 0, 0)), ("held", "age")),
            (("gate", -1, (0, 0, 0, 0, 0)), ("held", "age")),
            (wrong_sum("gate", 0, 11), ("held", "false")),
            (sent("gate", 0, 10), ("held", "old")),
            (sent("gate", 0, 31), ("held", "beyond")),
            (sent("gate", 0, 20), ("held", "far")),
            (sent("gate", 0, 20), ("held", "far")),
            (sent("gate", 0, 21, 3), ("open", "gate", 3)),
            (sent("gate", 1, 22, 15), ("open", "gate", 15)),
            (sent("gate", 1, 22, 15), ("held", "old")),
        ):
            self.assertEqual(door.hear(press), answer)
            rows.append(("hear", press, answer))
            self.assertEqual(door.log_now(), tuple(rows))
        check_told(self, door.log_now())


class NotKept(unittest.TestCase):
    def test_bad_hearings(self):
        door = door_with("gate", 0, 10)
        ahead = door.log_now()
        for thing in (None, True, 5, "gate", (), list(sent("gate", 0, 11)), ("gate", 0, (0,) * 4)):
            self.assertEqual(door.hear(thing), ("held", "bad"))
            self.assertEqual(door.log_now(), ahead)

    def test_refusals(self):
        door = door_with("gate", 0, 10, many=8, most=1)
        ahead = door.log_now()
        for refusal, ask, handed in (
            (BadPress, door.learn, (None, sent("gate", 0, 5))),
            (BadPress, door.learn, (sent("other", 0, 4), sent("other", 0, 6))),
            (Known, door.learn, (sent("gate", 0, 4), sent("gate", 0, 5))),
            (Full, door.learn, (sent("other", 0, 4), sent("other", 0, 5))),
            (Unknown, door.forget, ("other",)),
            (TooMany, door.turn_key, ((5,),)),
        ):
            self.assertRaises(refusal, ask, *handed)
            self.assertEqual(door.log_now(), ahead)

    def test_asking_is_no_deed(self):
        door = door_with("gate", 0, 10)
        ahead = door.log_now()
        door.known_now(), door.keys_now(), door.closed_now(), door.log_now()
        door.bounds_told(), door.table_told(), door.twin_door()
        self.assertEqual(door.log_now(), ahead)


class InOrder(unittest.TestCase):
    def test_all_deeds_in_a_row(self):
        door = new_door(many=1, most=2)
        teach(door, "gate", 0, 10)
        door.hear(sent("gate", 0, 11, 2))
        door.turn_key(HOUSE[1])
        self.assertRaises(Unknown, door.forget, "other")
        teach(door, "other", 1, 30)
        door.hear(None)
        door.close_below(1)
        door.hear(sent("gate", 0, 12))
        door.forget("gate")
        door.hear(sent("gate", 1, 13))
        teach(door, "gate", 1, 14)
        door.hear(sent("gate", 1, 15, 9))
        self.assertEqual(door.log_now(), (
            learnt("gate", 0, 10),
            ("hear", sent("gate", 0, 11, 2), ("open", "gate", 2)),
            ("turn", HOUSE[1]),
            learnt("other", 1, 30),
            ("close", 1),
            ("hear", sent("gate", 0, 12), ("held", "age")),
            ("forget", "gate"),
            ("hear", sent("gate", 1, 13), ("held", "unknown")),
            learnt("gate", 1, 14),
            ("hear", sent("gate", 1, 15, 9), ("open", "gate", 9)),
        ))

    def test_a_log_that_was_told_stays(self):
        door = door_with("gate", 0, 10)
        told = door.log_now()
        door.hear(sent("gate", 0, 11))
        self.assertEqual(told, (learnt("gate", 0, 10),))
        self.assertEqual(len(door.log_now()), 2)

    def test_a_twin_s_log_goes_on_by_its_own_deeds(self):
        door = door_with("gate", 0, 10)
        door.hear(sent("gate", 0, 11))
        first = door.log_now()
        twin = door.twin_door()
        self.assertEqual(twin.log_now(), first)
        twin.hear(sent("gate", 0, 12))
        door.close_below(1)
        door.forget("gate")
        opened = ("hear", sent("gate", 0, 12), ("open", "gate", 0))
        self.assertEqual(twin.log_now(), first + (opened,))
        self.assertEqual(door.log_now(), first + (("close", 1), ("forget", "gate")))


if __name__ == "__main__":
    unittest.main()
