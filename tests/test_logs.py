"""Point [14]: logs that are done again, shorter ones, and what was let in."""

import random
import unittest

from rollcode.doors import Door
from rollcode.errors import BadLog, CodeError
from rollcode.logs import let_in, replayed, short_log
from rollcode.presses import press_of, read_press
from tests.samples import (
    HOUSE, MIXED, check_told, door_of, door_with, grown_door, new_door, sent, some_deed, state_of,
    teach, wrong_sum)


def again(door, log, many):
    """The door made anew by this log, of so many first keys."""
    near, far, most = door.bounds_told()
    return replayed(door.table_told(), door.keys_now()[:many], near, far, most, log)


def learnt(name, age, last):
    return ("learn", sent(name, age, last - 1), sent(name, age, last))


OPENED = ("hear", sent("gate", 0, 11, 1), ("open", "gate", 1))


class Replayed(unittest.TestCase):
    def test_an_empty_log(self):
        for log in ((), []):
            door = replayed(MIXED, HOUSE[:2], 4, 20, 3, log)
            self.assertEqual(state_of(door), state_of(new_door()))

    def test_it_is_a_door(self):
        self.assertIs(type(replayed(MIXED, HOUSE[:2], 4, 20, 3, ())), Door)

    def test_each_deed(self):
        door = new_door(many=1, most=2)
        teach(door, "gate", 0, 10)
        door.hear(sent("gate", 0, 11, 2))
        door.turn_key(HOUSE[1])
        teach(door, "other", 1, 30)
        door.close_below(1)
        door.hear(sent("gate", 0, 12))
        door.forget("gate")
        door.hear(sent("gate", 1, 13))
        teach(door, "gate", 1, 14)
        door.hear(sent("gate", 1, 30))
        self.assertEqual(state_of(again(door, door.log_now(), 1)), state_of(door))

    def test_grown_doors(self):
        for seed in range(60):
            chance = random.Random(seed)
            many = chance.randrange(1, 4)
            door = grown_door(chance, 60, chance.choice((0, 4060)), many)
            twin = again(door, door.log_now(), many)
            self.assertEqual(state_of(twin), state_of(door))

    def test_at_every_point(self):
        for seed in range(6):
            chance = random.Random(seed)
            door = new_door(many=2, near=2, far=8)
            for k in range(60):
                some_deed(door, chance)
                self.assertEqual(state_of(again(door, door.log_now(), 2)), state_of(door))

    def test_it_goes_on_by_itself(self):
        door = door_with("gate", 0, 10)
        ahead = state_of(door)
        twin = again(door, door.log_now(), 2)
        twin.hear(sent("gate", 0, 11))
        twin.turn_key(HOUSE[2])
        self.assertEqual(state_of(door), ahead)
        door.forget("gate")
        self.assertEqual(twin.known_now(), (("gate", 0, 11, None),))
        self.assertEqual(twin.hear(sent("gate", 2, 12)), ("open", "gate", 0))
        self.assertEqual(len(twin.log_now()), 4)

    def test_lists_where_tuples_are_told(self):
        door = grown_door(random.Random(4), 60, 0, 2)
        log = list(door.log_now())
        self.assertEqual(state_of(again(door, log, 2)), state_of(door))
        rows = [list(row) for row in log]
        self.assertEqual(state_of(again(door, rows, 2)), state_of(door))
        answers = [
            ["hear", row[1], list(row[2])] if row[0] == "hear" else row for row in log]
        self.assertEqual(state_of(again(door, answers, 2)), state_of(door))
        keys = [list(key) for key in HOUSE[:2]]
        near, far, most = door.bounds_told()
        twin = replayed(list(MIXED), keys, near, far, most, door.log_now())
        self.assertEqual(state_of(twin), state_of(door))
        check_told(self, state_of(twin))

    def test_what_is_handed_in_stays(self):
        log = [list(learnt("gate", 0, 10)), ["hear", OPENED[1], ["open", "gate", 1]]]
        kept = repr(log)
        keys = [list(HOUSE[0])]
        door = replayed(MIXED, keys, 4, 20, 3, log)
        self.assertEqual(repr(log), kept)
        told = state_of(door)
        log[1][2][0] = "held"
        log[0].clear()
        log.clear()
        keys[0].append(3)
        self.assertEqual(state_of(door), told)
        check_told(self, told)

    def test_counts_for_nothing_what_a_press_does(self):
        # An answer tells the deed, whatever it is.
        for deed in range(16):
            log = (learnt("gate", 0, 10), ("hear", sent("gate", 0, 11, deed), ("open", "gate", deed)))
            door = replayed(MIXED, HOUSE[:1], 4, 20, 3, log)
            self.assertEqual(door.log_now(), log)


class Refused(unittest.TestCase):
    def check_row(self, log, row, **made):
        bounds = {"many": 2, "near": 4, "far": 20, "most": 3, **made}
        many = bounds.pop("many")
        with self.assertRaises(BadLog) as caught:
            replayed(MIXED, HOUSE[:many], bounds["near"], bounds["far"], bounds["most"], log)
        self.assertIs(type(caught.exception.row), int)
        self.assertEqual(caught.exception.row, row)
        self.assertIsInstance(caught.exception, CodeError)

    def check_last(self, row, **made):
        """It is refused at this row, ahead of others and behind others."""
        ahead = (learnt("gate", 0, 10), ("hear", sent("gate", 0, 11), ("open", "gate", 0)))
        self.check_row((row,), 0, **made)
        self.check_row([row], 0, **made)
        self.check_row(ahead + (row,), 2, **made)
        self.check_row(ahead + (row, learnt("b", 0, 3), row), 2, **made)

    def test_no_tuple_and_no_list(self):
        for log in (None, 0, 5, -1, True, False, "", "learn", "forget gate"):
            self.check_row(log, 0)

    def test_rows_that_are_none(self):
        for row in (None, 0, 7, True, False, "", "learn", "close", (), [], (None,), (0,), ((),), ([],),
                    (("close", 0),), [["close", 0]], ("",), (True, 0)):
            self.check_last(row)

    def test_other_words(self):
        for row in (("open", "gate"), ("Learn",) + learnt("b", 0, 3)[1:], ("close ", 0), ("shut", 0),
                    ("turned", (1,)), ("twin",), ("known",), ("hear ",) + OPENED[1:]):
            self.check_last(row)

    def test_too_short_and_too_long(self):
        for row in (learnt("b", 0, 3), ("forget", "gate"), ("turn", (1, 2)), ("close", 0),
                    ("hear", sent("b", 0, 11), ("held", "unknown"))):
            self.check_last(row[:1])
            self.check_last(row[:-1])
            for more in (None, 0, "", ()):
                self.check_last(row + (more,))
                self.check_last(list(row) + [more])

    def test_keys(self):
        for key in ([1, 2], [], (), (1,) * 9, (16,), (1, -1), (True,), (False,), (1, True), (None,), ("1",),
                    "12", 5, None, ((1,),), (1, [2])):
            self.check_last(("turn", key))

    def test_keys_of_one_to_eight_digits_are_taken(self):
        for key in ((0,), (15,), (1, 2, 3, 4, 5, 6, 7, 8)):
            self.assertEqual(replayed(MIXED, HOUSE[:1], 4, 20, 3, (("turn", key),)).keys_now(), (HOUSE[0], key))

    def test_ages(self):
        for age in (True, False, -1, -2, 2, 3, 7, 8, None, "0", (), [], (0,)):
            self.check_last(("close", age))

    def test_ages_of_the_keys_there_are_then(self):
        self.check_row((("turn", (1,)), ("close", 3), ("turn", (1,))), 1)
        self.check_row((("turn", (1,)), ("close", 2), ("close", 3)), 2)
        door = replayed(MIXED, HOUSE[:2], 4, 20, 3, (("turn", (1,)), ("close", 2)))
        self.assertEqual(door.closed_now(), 2)

    def test_an_age_that_is_closed_already_is_done(self):
        log = (("close", 1), ("close", 0), ("close", 1))
        self.assertEqual(replayed(MIXED, HOUSE[:2], 4, 20, 3, log).log_now(), log)

    def test_names(self):
        for name in ("", "Gate", "gates9", "abcdefghi", "ga te", None, 0, True, (), [], ["gate"], ("gate",)):
            self.check_last(("forget", name))

    def test_learn_that_is_refused(self):
        one, other = sent("b", 0, 4), sent("b", 0, 5)
        for row in (
                ("learn", other, one), ("learn", one, one), ("learn", one, sent("b", 0, 6)),
                ("learn", one, sent("b", 1, 5)), ("learn", one, sent("c", 0, 5)),
                ("learn", wrong_sum("b", 0, 4), other), ("learn", one, wrong_sum("b", 0, 5)),
                ("learn", list(one), other), ("learn", one, list(other)),
                ("learn", one, ("b", 0, list(other[2]))), ("learn", sent("b", 2, 4), sent("b", 2, 5)),
                ("learn", None, other), ("learn", one, None), ("learn", True, []), ("learn", (), "b")):
            self.check_last(row)

    def test_learn_of_a_known_one(self):
        self.check_row((learnt("gate", 0, 10), learnt("gate", 0, 12)), 1)
        # Forgotten between it is learnt again.
        log = (learnt("gate", 0, 10), ("forget", "gate"), learnt("gate", 0, 12))
        self.assertEqual(replayed(MIXED, HOUSE[:1], 4, 20, 3, log).known_now(), (("gate", 0, 12, None),))

    def test_learn_of_one_too_many(self):
        log = tuple(learnt(name, 0, 10) for name in ("a", "b", "c"))
        self.check_row(log, 2, most=2)
        self.check_row(log, 1, most=1)
        self.assertEqual(len(replayed(MIXED, HOUSE[:1], 4, 20, 3, log).known_now()), 3)

    def test_learn_by_a_closed_age(self):
        self.check_row((("close", 1), learnt("gate", 0, 10)), 1)
        log = (("close", 1), learnt("gate", 1, 10))
        self.assertEqual(replayed(MIXED, HOUSE[:2], 4, 20, 3, log).log_now(), log)

    def test_forget_of_one_that_is_not_known(self):
        self.check_last(("forget", "other"))
        self.check_row((learnt("gate", 0, 10), ("forget", "gate"), ("forget", "gate")), 2)

    def test_a_ninth_key(self):
        log = tuple(("turn", (k,)) for k in range(8))
        self.check_row(log, 6)
        self.check_row(log, 7, many=1)
        self.check_row(log, 0, many=8)
        self.assertEqual(len(replayed(MIXED, HOUSE[:2], 4, 20, 3, log[:6]).keys_now()), 8)

    def test_a_hearing_that_is_answered_otherwise(self):
        for press, right in (
                (sent("gate", 0, 11, 1), ("open", "gate", 1)), (sent("gate", 0, 10, 1), ("held", "old")),
                (sent("gate", 0, 16, 1), ("held", "far")), (sent("gate", 0, 99, 1), ("held", "beyond")),
                (sent("b", 0, 11, 1), ("held", "unknown")), (sent("gate", 5, 11, 1), ("held", "age")),
                (wrong_sum("gate", 0, 11), ("held", "false"))):
            ahead = (learnt("gate", 0, 10),)
            self.assertEqual(
                len(replayed(MIXED, HOUSE[:2], 4, 20, 3, ahead + (("hear", press, right),)).log_now()), 2)
            for answer in (
                    ("open", "gate", 0), ("open", "gate", 2), ("open", "b", 1), ("open", "gate"), ("open",),
                    ("open", "gate", 1, 1), ("open", "gate", True), ("open", "gate", "1"), ("open", "gate", (1,)),
                    ("open", "gate", [1]), ("open", "gate", None), ("held", "near"), ("held", "bad"), ("held",),
                    ("held", "gate", 1), ("old",), "old", "held", None, True, 0, (), [], ((),), ("held", None),
                    ("held", "far "), ("held", "old", None), ["open", "gate", True], ["held"]):
                self.check_row(ahead + (("hear", press, answer),), 1)
            for word in ("old", "far", "beyond", "unknown", "age", "false"):
                if right != ("held", word):
                    self.check_row(ahead + (("hear", press, ("held", word)),), 1)

    def test_false_is_no_deed(self):
        ahead = (learnt("gate", 0, 10),)
        self.check_row(ahead + (("hear", sent("gate", 0, 11, 0), ("open", "gate", False)),), 1)

    def test_a_hearing_that_would_be_bad(self):
        press = sent("gate", 0, 11)
        for thing in (None, 0, True, "gate", (), [], list(press), press[:2], press + (0,),
                      ("gate", 0, list(press[2])), ("gate", True, press[2]), ("Gate", 0, press[2]),
                      ("gate", 0, (0, 0, 0, 0, 16)), ("gate", 0, (0, 0, 0, 0, True))):
            for answer in (("held", "bad"), ("held", "unknown"), ("open", "gate", 0)):
                self.check_last(("hear", thing, answer))

    def test_the_first_of_several(self):
        log = [learnt("gate", 0, 10), ("close", 9), ("forget", "b"), None]
        self.check_row(log, 1)
        self.check_row(log[:1] + log[2:], 1)
        self.check_row(log[:1] + log[:1] + log, 1)
        self.check_row([("close", 0)] * 30 + log, 31)

    def test_other_bounds_are_answered_otherwise(self):
        log = (learnt("gate", 0, 10), ("hear", sent("gate", 0, 14), ("open", "gate", 0)))
        self.check_row(log, 1, near=3)
        log = (learnt("gate", 0, 10), ("hear", sent("gate", 0, 30), ("held", "far")))
        self.check_row(log, 1, far=19)

    def test_broken_logs_of_grown_doors(self):
        for seed in range(60):
            chance = random.Random(seed)
            door = grown_door(chance, 40, 0, 2)
            log = list(door.log_now())
            at = chance.randrange(len(log))
            row = log[at]
            broken = chance.choice((None, row[:1], row + (0,), list(row) + [None], (row,), "hear", ("heard",) + row[1:]))
            log[at] = broken
            with self.assertRaises(BadLog) as caught:
                again(door, log, 2)
            self.assertEqual(caught.exception.row, at)


class ShortLog(unittest.TestCase):
    def check_short(self, door, many):
        """By its short log a door of the first keys comes to the same."""
        log = short_log(door)
        check_told(self, log)
        self.assertIs(type(log), tuple)
        twin = again(door, log, many)
        self.assertEqual(twin.known_now(), door.known_now())
        self.assertEqual(twin.keys_now(), door.keys_now())
        self.assertEqual(twin.closed_now(), door.closed_now())
        self.assertEqual(twin.log_now(), log)
        rows = 2 * len(door.known_now()) + len(door.keys_now()) - many + (door.closed_now() > 0)
        self.assertLessEqual(len(log), rows)
        return log

    def test_nothing(self):
        self.assertEqual(short_log(new_door()), ())

    def test_one_button(self):
        door = door_with("gate", 0, 10)
        for count in range(11, 40):
            door.hear(sent("gate", 0, count))
        self.assertLessEqual(len(self.check_short(door, 2)), 2)

    def test_what_waits(self):
        self.check_short(door_of([("gate", 0, 10, (0, 20))]), 2)
        self.check_short(door_of([("gate", 0, 10, (1, 30))]), 2)
        self.check_short(door_of([("gate", 0, 10, (0, 15))]), 2)

    def test_counts_from_first_to_last(self):
        for last in (1, 2, 15, 16, 255, 256, 4093, 4094, 4095):
            self.check_short(door_with("gate", 0, last), 2)
        self.check_short(door_of([("gate", 0, 4090, (0, 4095))]), 2)

    def test_many_buttons(self):
        known = [(name, k % 2, 5 + k, (1, 24) if k % 3 else None) for k, name in enumerate("abcdefghijkl")]
        self.check_short(door_of(known, most=12), 2)

    def test_keys_turned(self):
        door = new_door(many=1)
        for age in range(1, 8):
            door.turn_key(HOUSE[age])
        teach(door, "gate", 7, 10)
        log = self.check_short(door, 1)
        self.assertEqual([row[1] for row in log if row[0] == "turn"], list(HOUSE[1:]))

    def test_ages_closed(self):
        door = door_of([("gate", 0, 10, (1, 20))], many=4)
        for age in (1, 3, 2, 3, 0):
            door.close_below(age)
        log = self.check_short(door, 4)
        self.assertEqual(len([row for row in log if row[0] == "close"]), 1)

    def test_nothing_closed(self):
        door = new_door()
        door.close_below(0)
        self.assertEqual(short_log(door), ())

    def test_forgotten_ones_are_not_in_it(self):
        door = door_with("gate", 0, 10)
        door.forget("gate")
        self.assertEqual(self.check_short(door, 2), ())

    def test_twins_and_doors_made_anew(self):
        door = new_door(many=1)
        door.turn_key(HOUSE[1])
        teach(door, "gate", 1, 10)
        log = short_log(door)
        self.check_short(door.twin_door(), 1)
        self.assertEqual(short_log(door.twin_door()), log)
        self.check_short(again(door, door.log_now(), 1), 1)
        self.check_short(again(door, log, 1), 1)
        twin = door.twin_door()
        twin.turn_key(HOUSE[2])
        self.check_short(twin, 1)

    def test_grown_doors(self):
        for seed in range(150):
            chance = random.Random(seed)
            many = chance.randrange(1, 4)
            door = grown_door(chance, chance.choice((10, 50)), chance.choice((0, 2000, 4060)), many)
            self.check_short(door, many)

    def test_the_door_stays_as_it_was(self):
        door = door_of([("gate", 0, 10, (1, 20))], closed=1)
        ahead = state_of(door)
        told = short_log(door)
        self.assertEqual(short_log(door), told)
        self.assertEqual(state_of(door), ahead)


class LetIn(unittest.TestCase):
    def test_nothing(self):
        self.assertEqual(let_in(MIXED, HOUSE[:1], ()), ())
        door = door_with("gate", 0, 10)
        door.hear(sent("gate", 0, 10))
        door.hear(sent("gate", 0, 20))
        door.hear(sent("b", 0, 20))
        door.hear(wrong_sum("gate", 0, 11))
        door.close_below(1)
        door.forget("gate")
        door.turn_key(HOUSE[2])
        self.assertEqual(let_in(MIXED, HOUSE[:3], door.log_now()), ())

    def test_in_order_by_several_ages(self):
        door = door_of([("b", 0, 10, None), ("gate", 0, 10, None)], many=3)
        for name, age, count in (
                ("gate", 0, 11), ("b", 2, 14), ("gate", 0, 12), ("b", 0, 15), ("gate", 1, 14), ("gate", 0, 15),
                ("b", 2, 25), ("b", 2, 26)):
            door.hear(sent(name, age, count, 5))
        told = (("gate", 0, 11), ("b", 2, 14), ("gate", 0, 12), ("gate", 1, 14), ("b", 2, 26))
        self.assertEqual(let_in(MIXED, HOUSE[:3], door.log_now()), told)
        self.assertEqual(let_in(MIXED, HOUSE, door.log_now()), told)
        check_told(self, let_in(MIXED, HOUSE[:3], door.log_now()))

    def test_lists(self):
        door = door_with("gate", 0, 10)
        door.hear(sent("gate", 1, 11))
        log = [list(row) for row in door.log_now()]
        keys = [list(key) for key in HOUSE[:2]]
        self.assertEqual(let_in(list(MIXED), keys, log), (("gate", 1, 11),))

    def test_keys_that_came_later(self):
        door = door_with("gate", 0, 10, many=1)
        door.hear(sent("gate", 0, 11))
        door.turn_key((9, 9))
        door.hear(press_of(MIXED, (9, 9), "gate", 1, 12, 3))
        self.assertEqual(let_in(MIXED, door.keys_now(), door.log_now()), (("gate", 0, 11), ("gate", 1, 12)))

    def test_a_button_that_is_forgotten_and_learnt_again(self):
        door = door_with("gate", 0, 10)
        door.hear(sent("gate", 0, 11))
        door.forget("gate")
        teach(door, "gate", 0, 10)
        door.hear(sent("gate", 0, 11))
        self.assertEqual(let_in(MIXED, HOUSE[:2], door.log_now()), (("gate", 0, 11), ("gate", 0, 11)))

    def test_grown_doors(self):
        for seed in range(40):
            chance = random.Random(seed)
            door = new_door(many=2, near=2, far=8)
            told = []
            for k in range(60):
                many = len(door.log_now())
                some_deed(door, chance)
                for row in door.log_now()[many:]:
                    if row[0] == "hear" and row[2][0] == "open":
                        name, age, code = row[1]
                        told.append((name, age, read_press(MIXED, HOUSE[age], row[1])[0]))
            self.assertEqual(let_in(MIXED, door.keys_now(), door.log_now()), tuple(told))


if __name__ == "__main__":
    unittest.main()
