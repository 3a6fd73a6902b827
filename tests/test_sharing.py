"""Point [12]: what doors open to, and what tells doors apart that share buttons."""

import random
import unittest

from rollcode.sharing import agree, opens_at, shows_telling, telling
from tests.samples import (
    check_told, door_of, door_with, labelled, new_door, plain_button, plain_hear, sent,
    state_of, states_at)


def names_of(*doors):
    return sorted({row[0] for door in doors for row in door.known_now()})


def least_row(one, other, counts, most):
    """The least row that tells them apart, of counts of these and of most presses at most.

    None where there is none; a plain search through all such rows.
    """
    names = names_of(one, other)
    ages = range(len(one.keys_now()))
    presses = [(name, age, count) for name in names for age in ages for count in counts]
    start = ({name: plain_button(one, name) for name in names},
             {name: plain_button(other, name) for name in names})
    layer = [((), start)]
    seen = [start]
    for length in range(most):
        further = []
        for row, (these, those) in layer:
            for press in presses:
                name, age, count = press
                opened, here = plain_hear(one, these[name], age, count)
                opened_too, there = plain_hear(other, those[name], age, count)
                if opened != opened_too:
                    return row + (press,)
                behind = ({**these, name: here}, {**those, name: there})
                if behind not in seen:
                    seen.append(behind)
                    further.append((row + (press,), behind))
        layer = further
    return None


def plain_opens(door, name, age):
    """All counts that a twin lets in."""
    return [count for count in range(4096)
            if door.twin_door().hear(labelled(name, age, count))[0] == "open"]


def counts_of(stretches):
    return [count for first, last in stretches for count in range(first, last + 1)]


class OpensAt(unittest.TestCase):
    def test_near_alone(self):
        door = door_with("gate", 0, 10, near=4, far=20)
        self.assertEqual(opens_at(door, "gate", 0), ((11, 14),))
        self.assertEqual(opens_at(door, "gate", 1), ((11, 14),))

    def test_near_as_great_as_far(self):
        self.assertEqual(opens_at(door_with("gate", 0, 10, near=1, far=1), "gate", 0), ((11, 11),))
        self.assertEqual(opens_at(door_with("gate", 0, 10, near=9, far=9), "gate", 0), ((11, 19),))

    def test_what_waits(self):
        door = door_of([("gate", 0, 10, (0, 15))], near=4, far=20)
        self.assertEqual(opens_at(door, "gate", 0), ((11, 14), (16, 16)))
        self.assertEqual(opens_at(door, "gate", 1), ((11, 14),))
        door = door_of([("gate", 0, 10, (1, 29))], near=4, far=20)
        self.assertEqual(opens_at(door, "gate", 0), ((11, 14),))
        self.assertEqual(opens_at(door, "gate", 1), ((11, 14), (30, 30)))

    def test_what_waits_at_the_end_of_far(self):
        door = door_of([("gate", 0, 10, (0, 30))], near=4, far=20)
        self.assertEqual(opens_at(door, "gate", 0), ((11, 14),))

    def test_the_last_counts(self):
        self.assertEqual(opens_at(door_with("gate", 0, 4090), "gate", 0), ((4091, 4094),))
        self.assertEqual(opens_at(door_with("gate", 0, 4091), "gate", 0), ((4092, 4095),))
        self.assertEqual(opens_at(door_with("gate", 0, 4092), "gate", 0), ((4093, 4095),))
        self.assertEqual(opens_at(door_with("gate", 0, 4094), "gate", 0), ((4095, 4095),))
        self.assertEqual(opens_at(door_with("gate", 0, 4095), "gate", 0), ())

    def test_what_waits_at_the_last_counts(self):
        door = door_of([("gate", 0, 4089, (0, 4094))])
        self.assertEqual(opens_at(door, "gate", 0), ((4090, 4093), (4095, 4095)))
        door = door_of([("gate", 0, 4089, (0, 4095))])
        self.assertEqual(opens_at(door, "gate", 0), ((4090, 4093),))

    def test_ages_that_are_not_taken(self):
        door = door_with("gate", 1, 10, many=4)
        door.close_below(2)
        for age in (-9, -4, -1, 0, 1, 4, 7, 8, 100):
            self.assertEqual(opens_at(door, "gate", age), ())
        self.assertEqual(opens_at(door, "gate", 2), ((11, 14),))
        self.assertEqual(opens_at(door, "gate", 3), ((11, 14),))

    def test_an_age_that_is_elder_than_the_buttons(self):
        door = door_with("gate", 2, 10, many=4)
        self.assertEqual(opens_at(door, "gate", 1), ())
        self.assertEqual(opens_at(door, "gate", 2), ((11, 14),))

    def test_what_waits_of_an_age_that_is_closed(self):
        door = door_of([("gate", 0, 10, (0, 15))], closed=1)
        self.assertEqual(opens_at(door, "gate", 0), ())
        self.assertEqual(opens_at(door, "gate", 1), ((11, 14),))

    def test_a_name_that_is_not_known(self):
        door = door_with("gate", 0, 10)
        for name in ("a", "gat", "gates"):
            self.assertEqual(opens_at(door, name, 0), ())
        door.forget("gate")
        self.assertEqual(opens_at(door, "gate", 0), ())

    def test_against_a_twin(self):
        for known, age in (
                (("gate", 0, 5, (0, 60)), 0), (("gate", 0, 4000, (1, 4070)), 1),
                (("gate", 0, 4000, (1, 4070)), 0)):
            door = door_of([known], near=40, far=90)
            told = opens_at(door, "gate", age)
            self.assertEqual(counts_of(told), plain_opens(door, "gate", age))

    def test_against_counts_of_many_doors(self):
        for near, far in ((1, 1), (1, 2), (1, 3), (2, 6), (3, 4)):
            for lasts, counts in (((1, 2), range(15)), (range(4088, 4096), range(4085, 4096))):
                for state in states_at(near, far, lasts):
                    door = door_of([("gate",) + state], near=near, far=far)
                    for age in (-1, 0, 1, 2):
                        told = opens_at(door, "gate", age)
                        opened = [count for count in counts if plain_hear(door, state, age, count)[0]]
                        self.assertEqual(counts_of(told), opened)
                        # As few as can be: no two that touch.
                        for one, other in zip(told, told[1:]):
                            self.assertGreater(other[0], one[1] + 1)


class Telling(unittest.TestCase):
    def check_both(self, one, other, row):
        """telling and its kin, in both orders."""
        for these, those in ((one, other), (other, one)):
            self.assertEqual(telling(these, those), row)
            self.assertIs(agree(these, those), row is None)
            if row is not None:
                self.assertIs(shows_telling(these, those, row), True)

    def test_the_same_door(self):
        door = door_of([("a", 0, 4, (0, 12)), ("b", 1, 7, None)])
        self.check_both(door, door, None)
        self.check_both(door, door.twin_door(), None)
        self.check_both(new_door(), new_door(), None)

    def test_near(self):
        one = door_with("gate", 0, 10, near=4)
        self.check_both(one, door_with("gate", 0, 10, near=6), (("gate", 0, 15),))
        self.check_both(one, door_with("gate", 0, 10, near=1), (("gate", 0, 12),))

    def test_far(self):
        one = door_with("gate", 0, 10, near=4, far=20)
        # 30 is the last far one of one door: 31 opens the other one behind it.
        row = (("gate", 0, 30), ("gate", 0, 31))
        self.check_both(one, door_with("gate", 0, 10, near=4, far=21), row)
        self.check_both(one, door_with("gate", 0, 10, near=4, far=25), row)

    def test_far_beside_no_far(self):
        one = door_with("gate", 0, 10, near=4, far=4)
        # 14 is near in both, so that 15 must wait.
        self.check_both(one, door_with("gate", 0, 10, near=4, far=6), (("gate", 0, 15), ("gate", 0, 16)))
        self.check_both(one, door_with("gate", 0, 10, near=4, far=9), (("gate", 0, 15), ("gate", 0, 16)))

    def test_a_far_of_one_count_opens_nothing(self):
        one = door_with("gate", 0, 10, near=4, far=4)
        self.check_both(one, door_with("gate", 0, 10, near=4, far=5), None)

    def test_far_where_one_waits(self):
        one = door_of([("gate", 0, 10, (0, 14))], near=2, far=5)
        other = door_of([("gate", 0, 10, (0, 14))], near=2, far=6)
        # 15 opens both by age 0; by age 1 it would wait, but that is no less.
        self.check_both(one, other, (("gate", 0, 16), ("gate", 0, 15)))
        one = door_of([("gate", 1, 10, (1, 14))], near=2, far=5)
        other = door_of([("gate", 1, 10, (1, 14))], near=2, far=6)
        self.check_both(one, other, (("gate", 1, 16), ("gate", 1, 15)))

    def test_far_where_another_one_waits(self):
        one = door_of([("gate", 0, 10, (0, 13))], near=2, far=5)
        other = door_of([("gate", 0, 10, (0, 13))], near=2, far=6)
        self.check_both(one, other, (("gate", 0, 15), ("gate", 0, 16)))

    def test_a_far_that_is_beyond_the_last_count(self):
        one = door_with("gate", 0, 4080, near=4, far=15)
        self.check_both(one, door_with("gate", 0, 4080, near=4, far=16), None)
        self.check_both(one, door_with("gate", 0, 4080, near=4, far=1024), None)
        one = door_with("gate", 0, 4080, near=4, far=14)
        other = door_with("gate", 0, 4080, near=4, far=1024)
        self.check_both(one, other, (("gate", 0, 4094), ("gate", 0, 4095)))

    def test_a_far_that_begins_at_the_last_count(self):
        one = door_with("gate", 0, 4090, near=4, far=4)
        self.check_both(one, door_with("gate", 0, 4090, near=4, far=20), None)
        one = door_with("gate", 0, 4089, near=4, far=4)
        other = door_with("gate", 0, 4089, near=4, far=20)
        self.check_both(one, other, (("gate", 0, 4094), ("gate", 0, 4095)))

    def test_a_near_that_is_beyond_the_last_count(self):
        one = door_with("gate", 0, 4091, near=4, far=20)
        self.check_both(one, door_with("gate", 0, 4091, near=9, far=9), None)
        one = door_with("gate", 0, 4091, near=3, far=20)
        self.check_both(one, door_with("gate", 0, 4091, near=9, far=9), (("gate", 0, 4095),))

    def test_most_counts_for_nothing(self):
        self.check_both(door_with("gate", 0, 10, most=1), door_with("gate", 0, 10, most=12), None)

    def test_closed_ages(self):
        one = door_with("gate", 0, 10)
        other = door_with("gate", 0, 10)
        other.close_below(1)
        self.check_both(one, other, (("gate", 0, 11),))

    def test_an_age_that_is_closed_by_other_means(self):
        # One has let in a newer age, the other one has closed what is below it.
        one = door_with("gate", 1, 10)
        other = door_with("gate", 0, 10)
        other.close_below(1)
        self.check_both(one, other, None)
        far_one = door_with("gate", 0, 10, far=30)
        far_one.close_below(1)
        self.check_both(one, far_one, (("gate", 1, 30), ("gate", 1, 31)))

    def test_closed_ages_of_no_button(self):
        one = new_door()
        one.close_below(1)
        self.check_both(one, new_door(), None)

    def test_known_in_one_alone(self):
        self.check_both(door_with("gate", 0, 10), new_door(), (("gate", 0, 11),))
        self.check_both(door_with("gate", 1, 10), new_door(), (("gate", 1, 11),))
        closed = door_with("gate", 0, 10)
        closed.close_below(1)
        self.check_both(closed, new_door(), (("gate", 1, 11),))

    def test_a_worn_one_known_in_one_alone(self):
        self.check_both(door_with("gate", 0, 4095), new_door(), None)
        self.check_both(door_with("gate", 0, 4095), door_with("gate", 1, 4095), None)
        self.check_both(door_with("gate", 0, 4095), door_with("gate", 0, 4094), (("gate", 0, 4095),))

    def test_last_counts(self):
        one = door_with("gate", 0, 10)
        self.check_both(one, door_with("gate", 0, 11), (("gate", 0, 11),))
        self.check_both(one, door_with("gate", 0, 40), (("gate", 0, 11),))
        self.check_both(one, door_with("gate", 0, 8), (("gate", 0, 9),))

    def test_ages(self):
        self.check_both(door_with("gate", 0, 10), door_with("gate", 1, 10), (("gate", 0, 11),))

    def test_what_waits(self):
        one = door_of([("gate", 0, 10, (0, 17))])
        self.check_both(one, door_with("gate", 0, 10), (("gate", 0, 18),))
        self.check_both(one, door_of([("gate", 0, 10, (0, 16))]), (("gate", 0, 17),))
        self.check_both(one, door_of([("gate", 0, 10, (1, 17))]), (("gate", 0, 18),))

    def test_what_waits_of_no_use(self):
        # At the end of far, of a closed age, at the last count.
        self.check_both(door_of([("gate", 0, 10, (0, 30))]), door_with("gate", 0, 10), None)
        one = door_of([("gate", 0, 10, (0, 17))], closed=1)
        self.check_both(one, door_of([("gate", 0, 10, None)], closed=1), None)
        self.check_both(door_of([("gate", 0, 4089, (0, 4095))]), door_with("gate", 0, 4089), None)

    def test_the_least_name_of_several(self):
        one = door_of([("a", 0, 5, None), ("b", 0, 5, None), ("c", 0, 5, None)])
        other = door_of([("a", 0, 5, None), ("b", 0, 6, None), ("c", 0, 4, None)])
        self.check_both(one, other, (("b", 0, 6),))

    def test_one_press_ahead_of_two(self):
        # By b one press tells it, by a only two do.
        one = door_of([("a", 0, 5, None), ("b", 0, 5, None)], far=20)
        other = door_of([("a", 0, 5, None), ("b", 1, 5, None)], far=21)
        self.check_both(one, other, (("b", 0, 6),))

    def test_the_least_name_by_two(self):
        one = door_of([("a", 0, 4095, None), ("b", 0, 5, None), ("c", 0, 3, None)], far=20)
        other = door_of([("a", 0, 4095, None), ("b", 0, 5, None), ("c", 0, 3, None)], far=21)
        self.check_both(one, other, (("b", 0, 25), ("b", 0, 26)))

    def test_names_known_in_other_doors(self):
        one = door_with("b", 0, 5)
        other = door_with("a", 1, 5)
        self.check_both(one, other, (("a", 1, 6),))

    def test_the_newest_of_eight_ages(self):
        one = door_with("gate", 7, 10, many=8)
        self.check_both(one, door_with("gate", 7, 10, many=8), None)
        self.check_both(one, door_with("gate", 7, 11, many=8), (("gate", 7, 11),))
        waits = door_of([("gate", 0, 10, (7, 20))], many=8)
        self.check_both(waits, door_with("gate", 0, 10, many=8), (("gate", 7, 21),))

    def test_the_widest_bounds(self):
        one = door_with("gate", 0, 10, near=64, far=1023)
        other = door_with("gate", 0, 10, near=64, far=1024)
        self.check_both(one, other, (("gate", 0, 1033), ("gate", 0, 1034)))

    def test_behind_what_opens_both(self):
        one = door_with("gate", 0, 5, near=2, far=9)
        other = door_with("gate", 1, 4, near=2, far=9)
        self.assertFalse(agree(one, other))
        for door in (one, other):
            self.assertEqual(door.hear(sent("gate", 1, 6)), ("open", "gate", 0))
        self.check_both(one, other, None)


class AgainstAllRows(unittest.TestCase):
    """At the last counts all rows can be tried, of whatever length."""

    def some_state(self, chance, near, far, lasts):
        states = states_at(near, far, lasts)
        return chance.choice(states + [None])

    def bounds(self, chance):
        near = chance.choice((1, 2, 3))
        return near, near + chance.choice((0, 1, 2, 4, 6))

    def doors(self, chance, names, lasts):
        """Two doors that are often alike in much."""
        near, far = self.bounds(chance)
        other_near, other_far = chance.choice(((near, far), (near, far + 1), (near, far + 3), self.bounds(chance)))
        one, other = [], []
        for name in names:
            state = self.some_state(chance, near, far, lasts)
            too = state if chance.randrange(4) else self.some_state(chance, other_near, other_far, lasts)
            if too is not None and too[2] is not None and not (
                    too[1] + other_near < too[2][1] <= too[1] + other_far):
                too = too[:2] + (None,)
            if state is not None:
                one.append((name,) + state)
            if too is not None:
                other.append((name,) + too)
        closed = chance.choice((0, 0, 0, 1))
        return (door_of(one, near=near, far=far, closed=closed),
                door_of(other, near=other_near, far=other_far, closed=chance.choice((closed, closed, 0, 1))))

    def test_one_button_at_the_last_counts(self):
        lengths = set()
        for seed in range(700):
            one, other = self.doors(random.Random(seed), ("a",), range(4090, 4096))
            row = least_row(one, other, range(4088, 4096), 20)
            self.assertEqual(telling(one, other), row)
            self.assertIs(agree(one, other), row is None)
            lengths.add(len(row or ()))
        self.assertLessEqual({0, 1, 2}, lengths)

    def test_two_buttons_by_short_rows(self):
        for seed in range(150):
            one, other = self.doors(random.Random(seed), ("a", "b"), (4092, 4093, 4095))
            row = least_row(one, other, range(4090, 4096), 2)
            self.assertEqual(telling(one, other), row)

    def test_one_button_at_the_first_counts_by_short_rows(self):
        for seed in range(200):
            one, other = self.doors(random.Random(seed), ("a",), (2, 3))
            row = least_row(one, other, range(0, 16), 2)
            self.assertEqual(telling(one, other), row)

    def test_doors_that_agree_answer_alike_to_long_rows(self):
        agreed = 0
        for seed in range(400):
            chance = random.Random(seed)
            lasts = chance.choice((range(3, 9), range(4085, 4096)))
            one, other = self.doors(chance, ("a", "b"), lasts)
            if agree(one, other):
                agreed += 1
                for k in range(80):
                    press = sent(chance.choice("ab"), chance.choice((0, 0, 0, 1)),
                                 min(4095, chance.randrange(lasts[0], lasts[-1] + 20)))
                    self.assertEqual(one.hear(press)[0], other.hear(press)[0])
        self.assertGreater(agreed, 40)

    def test_by_presses_that_are_heard(self):
        # The row that is told, heard as presses by twins of both.
        for seed in range(200):
            one, other = self.doors(random.Random(seed), ("a", "b"), range(4085, 4096))
            row = telling(one, other)
            if row is not None:
                these, those = one.twin_door(), other.twin_door()
                opened = [(these.hear(sent(*press))[0], those.hear(sent(*press))[0]) for press in row]
                self.assertNotEqual(*opened[-1])
                for answers in opened[:-1]:
                    self.assertEqual(*answers)


class ShowsTelling(unittest.TestCase):
    def setUp(self):
        self.one = door_with("gate", 0, 10, near=4, far=20)
        self.other = door_with("gate", 0, 10, near=4, far=30)

    def test_rows_that_show_it(self):
        for row in (
                (("gate", 0, 30), ("gate", 0, 31)),
                (("gate", 0, 35), ("gate", 0, 36)),
                (("gate", 1, 35), ("gate", 1, 36)),
                (("gate", 0, 3), ("gate", 0, 30), ("a", 0, 1), ("gate", 0, 31)),
                (("gate", 0, 11), ("gate", 0, 36), ("gate", 0, 37))):
            self.assertIs(shows_telling(self.one, self.other, row), True)
            self.assertIs(shows_telling(self.other, self.one, row), True)
            self.assertIs(shows_telling(self.one, self.other, [list(press) for press in row]), True)
            self.assertIs(shows_telling(self.one, self.other, list(row)), True)

    def test_rows_that_do_not(self):
        for row in (
                (("gate", 0, 11),), (("gate", 0, 15),), (("gate", 0, 31),), (("a", 0, 11),),
                (("gate", 0, 29), ("gate", 0, 30)), (("gate", 0, 31), ("gate", 0, 30)),
                (("gate", 0, 30), ("gate", 1, 31)), (("gate", 0, 30), ("gate", 0, 11), ("gate", 0, 31))):
            self.assertIs(shows_telling(self.one, self.other, row), False)
            self.assertIs(shows_telling(self.other, self.one, row), False)
            self.assertIs(shows_telling(self.one, self.other, [list(press) for press in row]), False)

    def test_rows_that_show_it_ahead_of_the_last(self):
        row = (("gate", 0, 30), ("gate", 0, 31))
        # Behind it 32 opens one of them, too.
        self.assertIs(shows_telling(self.one, self.other, row + (("gate", 0, 32),)), False)
        self.assertIs(shows_telling(self.one, self.other, row + (("gate", 0, 31),)), False)
        self.assertIs(shows_telling(self.one, self.other, row + (("gate", 0, 11),)), False)

    def test_what_waits_is_lost_in_one(self):
        row = (("gate", 0, 20), ("gate", 0, 35), ("gate", 0, 21))
        self.assertIs(shows_telling(self.one, self.other, row), True)
        self.assertIs(shows_telling(self.one, self.other, row[:1] + row[2:]), False)

    def test_other_buttons_between(self):
        one = door_of([("a", 0, 10, None), ("b", 0, 3, None)], near=2, far=4)
        other = door_of([("a", 0, 10, None)], near=2, far=9)
        self.assertIs(shows_telling(one, other, (("a", 0, 14), ("a", 0, 15))), True)
        self.assertIs(shows_telling(one, other, (("a", 0, 14), ("b", 0, 4), ("a", 0, 15))), False)
        self.assertIs(shows_telling(one, other, (("a", 0, 14), ("b", 0, 4))), True)
        self.assertIs(shows_telling(one, other, (("a", 0, 14), ("b", 0, 3), ("a", 0, 15))), True)

    def test_doors_that_agree(self):
        for row in ((("gate", 0, 11),), (("gate", 0, 30), ("gate", 0, 31))):
            self.assertIs(shows_telling(self.one, self.one.twin_door(), row), False)

    def test_against_presses_that_are_heard(self):
        chance = random.Random(3)
        shown = 0
        for k in range(1500):
            one = door_with("gate", 0, 5, near=2, far=chance.choice((2, 4, 5)))
            other = door_with("gate", 0, chance.choice((5, 5, 6)), near=2, far=chance.choice((4, 5, 9)))
            row = [("gate", chance.choice((0, 0, 0, 1)), chance.randrange(5, 14))
                   for press in range(chance.randrange(1, 5))]
            these, those = one.twin_door(), other.twin_door()
            opened = [these.hear(sent(*press))[0] == those.hear(sent(*press))[0] for press in row]
            expected = all(opened[:-1]) and not opened[-1]
            self.assertIs(shows_telling(one, other, row), expected)
            shown += expected
        self.assertGreater(shown, 50)


class Asked(unittest.TestCase):
    def questions(self, one, other):
        row = (("gate", 0, 20), ("gate", 0, 35), ("a", 1, 21))
        told = tuple(opens_at(one, name, age) for name in ("a", "gate") for age in (-1, 0, 1, 2))
        self.assertIs(type(shows_telling(one, other, row)), bool)
        self.assertIs(type(agree(one, other)), bool)
        return told + (telling(one, other), telling(other, one))

    def test_the_doors_stay_as_they_were(self):
        one = door_of([("a", 0, 5, (1, 12)), ("gate", 0, 10, None)], far=20)
        other = door_of([("gate", 0, 10, None)], far=21)
        third = door_of([("a", 0, 5, (1, 12)), ("gate", 0, 10, None)], far=24)
        doors = (one, other, third)
        ahead = [state_of(door) for door in doors]
        for these in doors:
            for those in doors:
                told = self.questions(these, those)
                check_told(self, told)
                self.assertEqual(self.questions(these, those), told)
        self.assertEqual([state_of(door) for door in doors], ahead)

    def test_a_row_that_is_handed_in_stays(self):
        row = [["gate", 0, 20], ["gate", 0, 35], ["a", 1, 21]]
        kept = [list(press) for press in row]
        shows_telling(door_with("gate", 0, 10), door_with("a", 0, 10), row)
        self.assertEqual(row, kept)

    def test_what_was_told_stays(self):
        one = door_with("gate", 0, 10)
        other = door_with("gate", 0, 10, far=30)
        told = self.questions(one, other)
        kept = repr(told)
        one.hear(sent("gate", 0, 12))
        self.assertEqual(repr(told), kept)

    def test_what_was_told_may_be_handed_in(self):
        one = door_with("gate", 0, 10)
        other = door_with("gate", 0, 10, far=30)
        self.assertIs(shows_telling(one, other, telling(one, other)), True)


if __name__ == "__main__":
    unittest.main()
