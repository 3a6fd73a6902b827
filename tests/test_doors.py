"""Point [8]: what a Door is at first, and what it hears; and [2] as far as it reaches that."""

import unittest

from rollcode.doors import Door
from rollcode.presses import press_of, read_press
from tests.samples import (
    HOUSE, MIXED, PLAIN, TABLES, check_told, door_with, new_door, sent, state_of, teach, wrong_sum)


def held(word):
    return ("held", word)


def opened(name, deed):
    return ("open", name, deed)


class AtFirst(unittest.TestCase):
    def test_what_is_told(self):
        for many in range(1, 9):
            for bounds in ((1, 1, 1), (1, 2, 12), (64, 64, 3), (64, 1024, 12)):
                for table in TABLES:
                    door = Door(table, HOUSE[:many], *bounds)
                    self.assertEqual(door.known_now(), ())
                    self.assertEqual(door.keys_now(), HOUSE[:many])
                    self.assertEqual(door.closed_now(), 0)
                    self.assertEqual(door.bounds_told(), bounds)
                    self.assertEqual(door.table_told(), table)
                    self.assertEqual(door.log_now(), ())

    def test_by_their_arguments_names(self):
        door = Door(table=MIXED, keys=HOUSE[:1], near=4, far=20, most=2)
        self.assertEqual(door.bounds_told(), (4, 20, 2))
        self.assertIs(door.learn(one=sent("gate", 0, 5), other=sent("gate", 0, 6)), None)
        self.assertEqual(door.hear(thing=sent("gate", 0, 7, 3)), opened("gate", 3))
        self.assertIs(door.turn_key(key=HOUSE[1]), None)
        self.assertIs(door.close_below(age=1), None)
        self.assertIs(door.forget(name="gate"), None)

    def test_kinds_of_what_is_told(self):
        door = Door(list(MIXED), [list(key) for key in HOUSE[:2]], 4, 20, 3)
        check_told(self, state_of(door))
        teach(door, "gate", 0, 10)
        for count in (10, 11, 25, 26, 40, 99):
            check_told(self, door.hear(sent("gate", 0, count)))
            check_told(self, state_of(door))
        door.turn_key(list(HOUSE[2]))
        door.close_below(1)
        check_told(self, door.hear(sent("gate", 0, 50)))
        check_told(self, door.hear(wrong_sum("gate", 1, 50)))
        door.forget("gate")
        check_told(self, state_of(door))


class EachWord(unittest.TestCase):
    def test_bad(self):
        door = door_with("gate", 0, 10)
        for thing in (None, 5, "gate", (), list(sent("gate", 0, 11))):
            self.assertEqual(door.hear(thing), held("bad"))

    def test_unknown(self):
        self.assertEqual(new_door().hear(sent("gate", 0, 11)), held("unknown"))
        door = door_with("gate", 0, 10)
        for name in ("a", "gat", "gates", "etag"):
            self.assertEqual(door.hear(sent(name, 0, 11)), held("unknown"))

    def test_age(self):
        door = door_with("gate", 1, 10, many=3)
        code = sent("gate", 1, 11)[2]
        for age in (-1, -(10 ** 30), 3, 4, 8, 10 ** 30):
            self.assertEqual(door.hear(("gate", age, code)), held("age"))
        # Less than the button's.
        self.assertEqual(door.hear(sent("gate", 0, 11)), held("age"))
        self.assertEqual(door.hear(sent("gate", 1, 11)), opened("gate", 0))

    def test_age_that_is_closed(self):
        door = door_with("gate", 0, 10, many=3)
        door.close_below(2)
        self.assertEqual(door.hear(sent("gate", 0, 11)), held("age"))
        self.assertEqual(door.hear(sent("gate", 1, 11)), held("age"))
        self.assertEqual(door.hear(sent("gate", 2, 11)), opened("gate", 0))

    def test_false(self):
        door = door_with("gate", 0, 10)
        for count in (0, 9, 10, 11, 14, 15, 30, 31, 4095):
            for age in (0, 1):
                self.assertEqual(door.hear(wrong_sum("gate", age, count)), held("false"))

    def test_false_by_every_fifth_digit_but_one(self):
        door = door_with("gate", 0, 10)
        one = sent("gate", 0, 11, 7)
        told = []
        for digit in range(16):
            press = one[:2] + (one[2][:4] + (digit,),)
            pair = read_press(MIXED, HOUSE[0], press)
            if pair is None:
                self.assertEqual(door.hear(press), held("false"))
            told.append(pair)
        self.assertIn(None, told)

    def test_by_the_key_of_its_age(self):
        # The code is the one of age 0, the press says age 1.
        door = door_with("gate", 0, 10)
        press = ("gate", 1, sent("gate", 0, 11)[2])
        self.assertIs(read_press(MIXED, HOUSE[1], press), None)
        self.assertEqual(door.hear(press), held("false"))

    def test_old(self):
        for count in (0, 1, 5, 9, 10):
            for age in (0, 1):
                door = door_with("gate", 0, 10)
                self.assertEqual(door.hear(sent("gate", age, count)), held("old"))
                self.assertEqual(door.known_now(), (("gate", 0, 10, None),))

    def test_near(self):
        for count in (11, 12, 13, 14):
            for deed in (0, 1, 15):
                door = door_with("gate", 0, 10)
                self.assertEqual(door.hear(sent("gate", 0, count, deed)), opened("gate", deed))
                self.assertEqual(door.known_now(), (("gate", 0, count, None),))

    def test_far(self):
        for count in (15, 16, 29, 30):
            for age in (0, 1):
                door = door_with("gate", 0, 10)
                self.assertEqual(door.hear(sent("gate", age, count)), held("far"))
                self.assertEqual(door.known_now(), (("gate", 0, 10, (age, count)),))

    def test_beyond(self):
        for count in (31, 32, 100, 4095):
            for age in (0, 1):
                door = door_with("gate", 0, 10)
                self.assertEqual(door.hear(sent("gate", age, count)), held("beyond"))
                self.assertEqual(door.known_now(), (("gate", 0, 10, None),))

    def test_the_bounds_of_the_door_hold(self):
        for near, far in ((1, 1), (1, 2), (3, 3), (64, 64), (64, 65), (64, 1024)):
            for shift in (1, 2, near, near + 1, near + 2, far, far + 1, far + 2):
                door = door_with("gate", 0, 1, near=near, far=far)
                wanted = held("beyond")
                if shift <= far:
                    wanted = held("far")
                if shift <= near:
                    wanted = opened("gate", 0)
                self.assertEqual(door.hear(sent("gate", 0, 1 + shift)), wanted)

    def test_by_the_table_of_the_door(self):
        for table in TABLES:
            door = Door(table, ((5,),), 4, 20, 1)
            door.learn(*[press_of(table, (5,), "gate", 0, count, 0) for count in (0, 1)])
            press = press_of(table, (5,), "gate", 0, 2, 9)
            self.assertEqual(door.hear(press), opened("gate", 9))


class FirstDue(unittest.TestCase):
    def test_bad_ahead_of_unknown(self):
        door = new_door()
        self.assertEqual(door.hear(("gate", 0, sent("gate", 0, 1)[2] + (0,))), held("bad"))
        self.assertEqual(door.hear(list(sent("gate", 0, 1))), held("bad"))

    def test_bad_ahead_of_age(self):
        door = door_with("gate", 0, 10)
        for age in (-1, 2, 10 ** 30):
            self.assertEqual(door.hear(("gate", age, (0, 0, 0, 16, 0))), held("bad"))

    def test_unknown_ahead_of_age_and_false(self):
        door = door_with("gate", 0, 10)
        for age in (-1, 2, 10 ** 30):
            self.assertEqual(door.hear(("other", age, (0, 0, 0, 0, 0))), held("unknown"))
        self.assertEqual(door.hear(wrong_sum("other", 0, 11)), held("unknown"))
        door.close_below(1)
        self.assertEqual(door.hear(sent("other", 0, 11)), held("unknown"))

    def test_age_ahead_of_false(self):
        door = door_with("gate", 1, 10, many=2)
        for age in (-1, 2, 10 ** 30):
            for digit in range(16):
                self.assertEqual(door.hear(("gate", age, (0, 0, 0, 0, digit))), held("age"))
        self.assertEqual(door.hear(wrong_sum("gate", 0, 11)), held("age"))

    def test_age_ahead_of_false_where_it_is_closed(self):
        door = door_with("gate", 0, 10, many=2)
        door.close_below(1)
        self.assertEqual(door.hear(wrong_sum("gate", 0, 11)), held("age"))

    def test_age_ahead_of_the_window(self):
        for count in (0, 10, 11, 15, 31):
            door = door_with("gate", 1, 10)
            ahead = door.known_now()
            self.assertEqual(door.hear(sent("gate", 0, count)), held("age"))
            self.assertEqual(door.known_now(), ahead)

    def test_false_ahead_of_the_window(self):
        for count in (0, 10, 15, 31):
            door = door_with("gate", 0, 10)
            self.assertEqual(door.hear(wrong_sum("gate", 0, count)), held("false"))
            self.assertEqual(door.known_now(), (("gate", 0, 10, None),))


class Opens(unittest.TestCase):
    def test_in_a_row(self):
        door = door_with("gate", 0, 10)
        for count in range(11, 40):
            deed = count % 16
            self.assertEqual(door.hear(sent("gate", 0, count, deed)), opened("gate", deed))
            self.assertEqual(door.known_now(), (("gate", 0, count, None),))

    def test_twice_the_second_is_old(self):
        door = door_with("gate", 0, 10)
        self.assertEqual(door.hear(sent("gate", 0, 13)), opened("gate", 0))
        for count in (13, 12, 11, 10, 0):
            self.assertEqual(door.hear(sent("gate", 0, count)), held("old"))

    def test_the_window_goes_on_with_the_last(self):
        door = door_with("gate", 0, 10)
        self.assertEqual(door.hear(sent("gate", 0, 14)), opened("gate", 0))
        self.assertEqual(door.hear(sent("gate", 0, 18)), opened("gate", 0))
        self.assertEqual(door.hear(sent("gate", 0, 23)), held("far"))

    def test_the_last_counts(self):
        door = door_with("gate", 0, 4093)
        self.assertEqual(door.hear(sent("gate", 0, 4094)), opened("gate", 0))
        self.assertEqual(door.hear(sent("gate", 0, 4095, 15)), opened("gate", 15))
        self.assertEqual(door.known_now(), (("gate", 0, 4095, None),))
        self.assertEqual(door.hear(sent("gate", 0, 4095)), held("old"))

    def test_a_newer_age(self):
        door = door_with("gate", 0, 10, many=3)
        self.assertEqual(door.hear(sent("gate", 1, 12)), opened("gate", 0))
        self.assertEqual(door.known_now(), (("gate", 1, 12, None),))
        # Elder ones are held by their age, whatever their count.
        for count in (11, 12, 13, 30, 90):
            self.assertEqual(door.hear(sent("gate", 0, count)), held("age"))
        self.assertEqual(door.hear(sent("gate", 1, 12)), held("old"))
        self.assertEqual(door.hear(sent("gate", 2, 12)), held("old"))
        self.assertEqual(door.hear(sent("gate", 2, 13)), opened("gate", 0))
        self.assertEqual(door.hear(sent("gate", 1, 14)), held("age"))
        self.assertEqual(door.known_now(), (("gate", 2, 13, None),))

    def test_one_that_is_held_leaves_the_age(self):
        door = door_with("gate", 0, 10)
        for count in (10, 20, 31):
            door.hear(sent("gate", 1, count))
        self.assertEqual(door.hear(sent("gate", 0, 11)), opened("gate", 0))

    def test_each_button_by_itself(self):
        door = door_with("gate", 0, 10)
        teach(door, "a", 1, 100)
        self.assertEqual(door.hear(sent("a", 1, 101, 5)), opened("a", 5))
        self.assertEqual(door.hear(sent("gate", 0, 11, 6)), opened("gate", 6))
        self.assertEqual(door.hear(sent("a", 0, 102)), held("age"))
        self.assertEqual(
            door.known_now(), (("a", 1, 101, None), ("gate", 0, 11, None)))

    def test_two_buttons_of_one_key(self):
        # Each letter of "a" gives noughts: its key is that of "aa", too.
        door = door_with("a", 0, 10)
        teach(door, "aa", 0, 20)
        code = sent("a", 0, 21, 3)[2]
        self.assertEqual(sent("aa", 0, 21, 3)[2], code)
        self.assertEqual(door.hear(("aa", 0, code)), opened("aa", 3))
        self.assertEqual(door.hear(("a", 0, code)), held("far"))
        self.assertEqual(door.hear(("aaa", 0, code)), held("unknown"))


class Waiting(unittest.TestCase):
    def setUp(self):
        self.door = door_with("gate", 0, 10, many=3)
        teach(self.door, "other", 0, 20)

    def hear(self, age, count, deed=0):
        return self.door.hear(sent("gate", age, count, deed))

    def check_waits(self, waiting, age=0, last=10):
        self.assertEqual(self.door.known_now()[0], ("gate", age, last, waiting))

    def test_the_next_one_opens(self):
        self.assertEqual(self.hear(0, 20, 1), held("far"))
        self.check_waits((0, 20))
        self.assertEqual(self.hear(0, 21, 2), opened("gate", 2))
        self.check_waits(None, last=21)

    def test_at_the_edges_of_far(self):
        self.assertEqual(self.hear(0, 15), held("far"))
        self.assertEqual(self.hear(0, 16), opened("gate", 0))
        self.check_waits(None, last=16)
        # Now 36 is the last that is far.
        self.assertEqual(self.hear(0, 35), held("far"))
        self.assertEqual(self.hear(0, 36), opened("gate", 0))
        self.check_waits(None, last=36)

    def test_the_next_one_beyond_does_not_open(self):
        self.assertEqual(self.hear(0, 30), held("far"))
        self.assertEqual(self.hear(0, 31), held("beyond"))
        self.check_waits((0, 30))

    def test_the_same_one_twice_waits(self):
        self.assertEqual(self.hear(0, 20), held("far"))
        self.assertEqual(self.hear(0, 20), held("far"))
        self.check_waits((0, 20))
        self.assertEqual(self.hear(0, 21), opened("gate", 0))

    def test_the_one_ahead_takes_its_place(self):
        self.assertEqual(self.hear(0, 21), held("far"))
        self.assertEqual(self.hear(0, 20), held("far"))
        self.check_waits((0, 20))
        self.assertEqual(self.hear(0, 21), opened("gate", 0))

    def test_one_left_out_takes_its_place(self):
        self.assertEqual(self.hear(0, 20), held("far"))
        self.assertEqual(self.hear(0, 22), held("far"))
        self.check_waits((0, 22))
        self.assertEqual(self.hear(0, 21), held("far"))
        self.check_waits((0, 21))
        self.assertEqual(self.hear(0, 22), opened("gate", 0))
        self.check_waits(None, last=22)

    def test_what_is_let_in_is_old_then(self):
        self.hear(0, 20)
        self.hear(0, 21)
        for count in (20, 21, 11):
            self.assertEqual(self.hear(0, count), held("old"))

    def test_others_between_leave_what_waits(self):
        between = (
            (sent("gate", 0, 10), "old"),
            (sent("gate", 1, 3), "old"),
            (sent("gate", 0, 31), "beyond"),
            (sent("gate", 1, 4095), "beyond"),
            (wrong_sum("gate", 0, 21), "false"),
            (wrong_sum("gate", 0, 11), "false"),
            (("gate", 3, (0, 0, 0, 0, 0)), "age"),
            (("gate", -1, (0, 0, 0, 0, 0)), "age"),
            (sent("third", 0, 21), "unknown"),
            (sent("other", 0, 20), "old"),
            (sent("other", 0, 30), "far"),
            (list(sent("gate", 0, 21)), "bad"),
            (None, "bad"),
        )
        for thing, word in between:
            self.setUp()
            self.hear(0, 20)
            self.assertEqual(self.door.hear(thing), held(word))
            self.check_waits((0, 20))
            self.assertEqual(self.hear(0, 21), opened("gate", 0))

    def test_all_of_them_between(self):
        self.hear(0, 20)
        self.hear(0, 10)
        self.hear(0, 31)
        self.assertEqual(self.door.hear(sent("other", 0, 21)), opened("other", 0))
        self.assertEqual(self.door.hear(sent("other", 0, 41)), held("far"))
        self.check_waits((0, 20))
        self.assertEqual(self.hear(0, 21), opened("gate", 0))
        self.assertEqual(self.door.hear(sent("other", 0, 42)), held("beyond"))
        self.assertEqual(self.door.known_now()[1], ("other", 0, 21, (0, 41)))

    def test_another_button_s_next_count_does_not_open(self):
        self.door.hear(sent("other", 0, 29))
        self.assertEqual(self.hear(0, 30), held("far"))
        self.assertEqual(
            self.door.known_now(), (("gate", 0, 10, (0, 30)), ("other", 0, 20, (0, 29))))

    def test_a_near_one_clears_it(self):
        self.hear(0, 20)
        self.assertEqual(self.hear(0, 11), opened("gate", 0))
        self.check_waits(None, last=11)
        self.assertEqual(self.hear(0, 21), held("far"))
        self.check_waits((0, 21), last=11)

    def test_the_next_count_of_another_age_waits(self):
        self.assertEqual(self.hear(0, 20), held("far"))
        self.assertEqual(self.hear(1, 21), held("far"))
        self.check_waits((1, 21))
        # An elder one again, as the button's own age is the first still.
        self.assertEqual(self.hear(0, 22), held("far"))
        self.check_waits((0, 22))

    def test_two_of_a_newer_age_open(self):
        self.assertEqual(self.hear(2, 20), held("far"))
        self.check_waits((2, 20))
        self.assertEqual(self.hear(2, 21, 9), opened("gate", 9))
        self.check_waits(None, age=2, last=21)
        self.assertEqual(self.hear(1, 22), held("age"))
        self.assertEqual(self.hear(0, 22), held("age"))

    def test_what_waits_stays_where_its_age_is_closed(self):
        self.hear(0, 20)
        self.door.close_below(1)
        self.check_waits((0, 20))
        self.assertEqual(self.hear(0, 21), held("age"))
        self.check_waits((0, 20))
        self.assertEqual(self.hear(1, 21), held("far"))
        self.check_waits((1, 21))
        self.assertEqual(self.hear(1, 22), opened("gate", 0))
        self.check_waits(None, age=1, last=22)

    def test_none_waits_where_far_is_near(self):
        door = door_with("gate", 0, 10, near=4, far=4)
        self.assertEqual(door.hear(sent("gate", 0, 15)), held("beyond"))
        self.assertEqual(door.hear(sent("gate", 0, 16)), held("beyond"))
        self.assertEqual(door.known_now(), (("gate", 0, 10, None),))

    def test_one_far_count_alone_never_opens(self):
        door = door_with("gate", 0, 10, near=4, far=5)
        self.assertEqual(door.hear(sent("gate", 0, 15)), held("far"))
        self.assertEqual(door.hear(sent("gate", 0, 16)), held("beyond"))
        self.assertEqual(door.hear(sent("gate", 0, 15)), held("far"))

    def test_up_to_the_last_count(self):
        door = door_with("gate", 0, 4000, near=1, far=1024)
        self.assertEqual(door.hear(sent("gate", 0, 4094)), held("far"))
        self.assertEqual(door.hear(sent("gate", 0, 4095)), opened("gate", 0))


class Rising(unittest.TestCase):
    def test_known_by_names(self):
        names = ("m", "b", "zz", "a", "ab", "z", "aaaaaaaa", "ba")
        door = new_door(most=12)
        for at, name in enumerate(names):
            teach(door, name, at % 2, 100 - at)
        rows = [(name, at % 2, 100 - at, None) for at, name in enumerate(names)]
        self.assertEqual(door.known_now(), tuple(sorted(rows)))
        door.hear(sent("b", 1, 99 + 10))
        door.hear(sent("a", 1, 97 + 10))
        self.assertEqual(
            [row for row in door.known_now() if row[3] is not None],
            [("a", 1, 97, (1, 107)), ("b", 1, 99, (1, 109))])
        self.assertEqual([row[0] for row in door.known_now()], sorted(names))

    def test_asked_twice_is_told_the_same(self):
        door = door_with("gate", 0, 10)
        for count in (20, 21, 22, 21, 90):
            self.assertEqual(state_of(door), state_of(door))
            door.hear(sent("gate", 0, count))


class Apart(unittest.TestCase):
    def test_lists_that_are_changed_behind(self):
        table, keys = list(MIXED), [list(key) for key in HOUSE[:2]]
        door = Door(table, keys, 4, 20, 3)
        table.reverse()
        keys[0][0] = 8
        keys[1].clear()
        keys.append([5])
        self.assertEqual(door.keys_now(), HOUSE[:2])
        self.assertEqual(door.table_told(), MIXED)
        teach(door, "gate", 0, 10)
        self.assertEqual(door.hear(sent("gate", 1, 11)), opened("gate", 0))
        self.assertEqual(door.hear(("gate", 2, (0, 0, 0, 0, 0))), held("age"))

    def test_a_tuple_of_lists_that_are_changed_behind(self):
        keys = ([3, 9], [7, 0, 15])
        door = Door(MIXED, keys, 4, 20, 3)
        keys[0][0] = 8
        keys[1].append(1)
        self.assertEqual(door.keys_now(), HOUSE[:2])
        teach(door, "gate", 0, 10)
        self.assertEqual(door.hear(sent("gate", 1, 11)), opened("gate", 0))

    def test_lists_that_were_handed_in_stay(self):
        table, keys = list(MIXED), [list(key) for key in HOUSE[:2]]
        door = Door(table, keys, 4, 20, 3)
        teach(door, "gate", 0, 10)
        turned = list(HOUSE[2])
        door.turn_key(turned)
        door.close_below(1)
        door.hear(sent("gate", 2, 11))
        self.assertEqual(table, list(MIXED))
        self.assertEqual(keys, [list(key) for key in HOUSE[:2]])
        self.assertEqual(turned, list(HOUSE[2]))

    def test_what_was_told_stays(self):
        door = door_with("gate", 0, 10)
        first = state_of(door)
        door.hear(sent("gate", 0, 20))
        second = state_of(door)
        door.hear(sent("gate", 0, 21))
        door.turn_key(HOUSE[2])
        door.close_below(2)
        door.forget("gate")
        row = ("learn", sent("gate", 0, 9), sent("gate", 0, 10))
        heard = ("hear", sent("gate", 0, 20), held("far"))
        self.assertEqual(
            first, ((("gate", 0, 10, None),), HOUSE[:2], 0, (4, 20, 3), MIXED, (row,)))
        self.assertEqual(
            second,
            ((("gate", 0, 10, (0, 20)),), HOUSE[:2], 0, (4, 20, 3), MIXED, (row, heard)))

    def test_two_doors(self):
        one, other = door_with("gate", 0, 10), door_with("gate", 0, 10)
        one.hear(sent("gate", 0, 11))
        one.turn_key(HOUSE[2])
        one.close_below(1)
        self.assertEqual(state_of(other), state_of(door_with("gate", 0, 10)))
        self.assertEqual(other.hear(sent("gate", 0, 11)), opened("gate", 0))

    def test_doors_of_another_table_or_key_hear_nothing_right(self):
        press = sent("gate", 0, 11)
        for table, key in ((PLAIN, HOUSE[0]), (MIXED, HOUSE[5])):
            door = Door(table, (key,), 4, 20, 1)
            door.learn(*[press_of(table, key, "gate", 0, count, 0) for count in (9, 10)])
            self.assertIs(read_press(table, key, press), None)
            self.assertEqual(door.hear(press), held("false"))


if __name__ == "__main__":
    unittest.main()
