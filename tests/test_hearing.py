"""Points [10] and [11]: what a door may come to by the hearings of a row."""

import itertools
import random
import unittest

from rollcode.hearing import comes_to, heard, least_lost, may_open, sure
from tests.samples import (
    check_told, door_of, door_with, labelled, new_door, sent, state_of, states_at, wrong_sum)


def is_within(hearing, late):
    """Point [10] word by word."""
    if len(set(hearing)) < len(hearing):
        return False
    for place, number in enumerate(hearing):
        for ahead in hearing[:place]:
            if ahead > number + late:
                return False
    return True


def all_hearings(door, row, late, hearing=()):
    """(hearing, its last answer or None, known_now behind it) of each one within late."""
    found = [(hearing, None, door.known_now())] if not hearing else []
    for number in range(len(row)):
        longer = hearing + (number,)
        if is_within(longer, late):
            twin = door.twin_door()
            answer = twin.hear(row[number])
            found.append((longer, answer, twin.known_now()))
            found.extend(all_hearings(twin, row, late, longer))
    return found


def size_first(numbers):
    return (len(numbers), numbers)


def plain_may_open(found, k):
    """Of all hearings that were found."""
    hearings = [
        hearing for hearing, answer, known in found
        if hearing and hearing[-1] == k and answer[0] == "open"]
    return min(hearings, key=size_first, default=None)


def none_first(known):
    return tuple((name, age, last, waiting or ()) for name, age, last, waiting in known)


def plain_comes_to(found):
    return tuple(sorted({known for hearing, answer, known in found}, key=none_first))


def plain_sure(found_in_order, many):
    """Of all hearings within 0."""
    held = {hearing[-1] for hearing, answer, known in found_in_order if hearing and answer[0] == "held"}
    return tuple(k for k in range(many) if k not in held)


def plain_least_lost(door, row, k):
    for size in range(k + 1):
        for lost in itertools.combinations(range(k), size):
            twin = door.twin_door()
            for number in range(k):
                if number not in lost:
                    twin.hear(row[number])
            if twin.hear(row[k])[0] == "held":
                return lost
    return None


def some_door(chance):
    """A small door that knows two buttons, some with what waits."""
    near = chance.choice((1, 1, 2, 3))
    far = near + chance.choice((0, 1, 3, 5))
    states = states_at(near, far, (2, 3, 5), ages=3)
    known = [(name,) + chance.choice(states) for name in ("a", "b")]
    return door_of(known, many=3, near=near, far=far, closed=chance.choice((0, 0, 0, 1)))


def some_press(chance, names):
    """Mostly one that may open, but old, false, closed and unknown ones, too."""
    name = chance.choice(names)
    chosen = chance.randrange(20)
    if chosen == 0:
        return sent("c", 0, 5)
    if chosen == 1:
        return wrong_sum(name, 0, chance.randrange(10))
    if chosen == 2:
        return labelled(name, chance.choice((-1, 3, 9)), chance.randrange(10))
    return sent(name, chance.choice((0, 0, 0, 1, 2)), chance.randrange(2, 13), chance.randrange(16))


def some_row(chance, many):
    """A row of presses of one button or two, some of them twice, some in a row."""
    names = chance.choice((("a",), ("a", "b")))
    row = []
    while len(row) < many:
        press = some_press(chance, names)
        if row and chance.randrange(5) == 0:
            press = chance.choice(row)
        row.append(press)
    if chance.randrange(2):
        # Sent by counts as a button sends them.
        first = chance.randrange(3, 8)
        row = [sent(names[k % len(names)], 0, first + k) for k in range(many)]
    return row


class Heard(unittest.TestCase):
    def setUp(self):
        self.door = door_with("gate", 0, 10, near=2, far=8)
        self.row = [sent("gate", 0, count, count % 16) for count in (11, 12, 15, 16, 17)]

    def test_none(self):
        self.assertEqual(heard(self.door, self.row, ()), ((), (("gate", 0, 10, None),)))
        self.assertEqual(heard(self.door, [], ()), ((), (("gate", 0, 10, None),)))

    def test_all_in_order(self):
        self.assertEqual(heard(self.door, self.row, (0, 1, 2, 3, 4)), (
            (("open", "gate", 11), ("open", "gate", 12), ("held", "far"), ("open", "gate", 0),
             ("open", "gate", 1)),
            (("gate", 0, 17, None),)))

    def test_some_lost(self):
        self.assertEqual(heard(self.door, self.row, (0, 2)), (
            (("open", "gate", 11), ("held", "far")), (("gate", 0, 11, (0, 15)),)))

    def test_another_order(self):
        self.assertEqual(heard(self.door, self.row, (1, 0)), (
            (("open", "gate", 12), ("held", "old")), (("gate", 0, 12, None),)))

    def test_one_several_times(self):
        self.assertEqual(heard(self.door, self.row, (0, 0, 2, 2, 3, 3)), (
            (("open", "gate", 11), ("held", "old"), ("held", "far"), ("held", "far"),
             ("open", "gate", 0), ("held", "old")),
            (("gate", 0, 16, None),)))

    def test_a_hearing_longer_than_the_row(self):
        told = heard(self.door, self.row[:1], (0,) * 30)
        self.assertEqual(told[0], (("open", "gate", 11),) + (("held", "old"),) * 29)

    def test_each_word(self):
        self.door.close_below(1)
        row = [
            sent("other", 1, 5), sent("gate", 0, 11), labelled("gate", -1, 11), labelled("gate", 2, 11),
            wrong_sum("gate", 1, 11), sent("gate", 1, 3), sent("gate", 1, 18), sent("gate", 1, 19)]
        words = [answer[1] for answer in heard(self.door, row, range(8))[0]]
        self.assertEqual(words, ["unknown", "age", "age", "age", "false", "old", "far", "beyond"])

    def test_rows_of_one_to_ten(self):
        for many in range(1, 11):
            row = [sent("gate", 0, 11 + k) for k in range(many)]
            answers, known = heard(self.door, row, tuple(range(many)))
            self.assertEqual(answers, (("open", "gate", 0),) * many)
            self.assertEqual(known, (("gate", 0, 10 + many, None),))

    def test_lists_and_tuples(self):
        for hearing in ((), (0,), (3, 2, 3), (1, 0, 4)):
            told = heard(self.door, self.row, hearing)
            self.assertEqual(heard(self.door, self.row, list(hearing)), told)
            self.assertEqual(heard(self.door, tuple(self.row), hearing), told)
            self.assertEqual(heard(self.door, tuple(self.row), list(hearing)), told)

    def test_as_a_twin_hears_it(self):
        for seed in range(40):
            chance = random.Random(seed)
            door = some_door(chance)
            row = some_row(chance, chance.randrange(1, 11))
            hearing = [chance.randrange(len(row)) for k in range(chance.randrange(14))]
            twin = door.twin_door()
            answers = tuple(twin.hear(row[number]) for number in hearing)
            self.assertEqual(heard(door, row, hearing), (answers, twin.known_now()))


class MayOpen(unittest.TestCase):
    def setUp(self):
        self.door = door_with("gate", 0, 10, near=1, far=4)

    def row_of(self, *counts):
        return [sent("gate", 0, count) for count in counts]

    def test_at_once(self):
        self.assertEqual(may_open(self.door, self.row_of(11, 12, 13), 0, 0), (0,))
        self.assertEqual(may_open(self.door, self.row_of(20, 11), 1, 0), (1,))

    def test_by_those_ahead(self):
        row = self.row_of(11, 12, 13)
        self.assertEqual(may_open(self.door, row, 1, 0), (0, 1))
        # Two in a row, far ahead, are fewer than three.
        self.assertEqual(may_open(self.door, row, 2, 0), (1, 2))

    def test_the_first_of_several(self):
        # Each by the first or by another one as long as it.
        row = self.row_of(12, 11, 12, 13)
        self.assertEqual(may_open(self.door, row, 3, 0), (0, 3))
        row = self.row_of(11, 11, 11, 12)
        self.assertEqual(may_open(self.door, row, 3, 0), (0, 3))

    def test_fewest_ahead_of_first(self):
        door = door_with("gate", 0, 10, near=2, far=2)
        row = self.row_of(11, 12, 13, 14, 15)
        self.assertEqual(may_open(door, row, 4, 0), (0, 2, 4))
        self.assertEqual(may_open(door, row, 3, 0), (1, 3))

    def test_none(self):
        row = self.row_of(10, 20, 15, 14)
        for k in (0, 1, 2):
            self.assertIsNone(may_open(self.door, row, k, 0))
        for late in range(4):
            self.assertIsNone(may_open(self.door, row, 0, late))
            self.assertIsNone(may_open(self.door, row, 1, late))

    def test_within_late(self):
        row = self.row_of(14, 13, 12, 11)
        self.assertIsNone(may_open(self.door, row, 0, 0))
        self.assertEqual(may_open(self.door, row, 0, 1), (1, 0))
        door = door_with("gate", 0, 10, near=1, far=1)
        self.assertIsNone(may_open(door, row, 0, 2))
        self.assertEqual(may_open(door, row, 0, 3), (3, 2, 1, 0))
        self.assertIsNone(may_open(door, row, 1, 1))
        self.assertEqual(may_open(door, row, 1, 2), (3, 2, 1))

    def test_late_reaches_over_what_is_lost(self):
        row = self.row_of(12, 30, 30, 11)
        door = door_with("gate", 0, 10, near=1, far=1)
        self.assertEqual(may_open(door, row, 0, 3), (3, 0))
        self.assertIsNone(may_open(door, row, 0, 2))

    def test_late_over_several(self):
        # 5 stands behind 7, and 4 behind 5: 4 behind 7 is too late for 2.
        row = self.row_of(30, 30, 30, 30, 13, 12, 30, 11)
        door = door_with("gate", 0, 10, near=1, far=1)
        self.assertIsNone(may_open(door, row, 4, 2))
        self.assertEqual(may_open(door, row, 4, 3), (7, 5, 4))
        self.assertEqual(may_open(door, row, 5, 2), (7, 5))

    def test_ten_by_threes(self):
        counts = (13, 12, 11, 16, 15, 14, 19, 18, 17, 20)
        door = door_with("gate", 0, 10, near=1, far=1)
        row = self.row_of(*counts)
        self.assertEqual(may_open(door, row, 9, 2), (2, 1, 0, 5, 4, 3, 8, 7, 6, 9))
        self.assertEqual(may_open(door, row, 9, 3), (2, 1, 0, 5, 4, 3, 8, 7, 6, 9))
        self.assertIsNone(may_open(door, row, 9, 1))
        self.assertEqual(may_open(door, row, 6, 2), (2, 1, 0, 5, 4, 3, 8, 7, 6))

    def test_ten_in_order(self):
        door = door_with("gate", 0, 10, near=1, far=1)
        row = self.row_of(*range(11, 21))
        for late in range(4):
            self.assertEqual(may_open(door, row, 9, late), tuple(range(10)))

    def test_what_waits_already(self):
        self.door.hear(sent("gate", 0, 13))
        self.assertEqual(may_open(self.door, self.row_of(20, 14), 1, 0), (1,))

    def test_a_newer_age_between(self):
        row = [sent("gate", 0, 11), sent("gate", 1, 12), sent("gate", 0, 13), sent("gate", 1, 13)]
        self.assertIsNone(may_open(door_with("gate", 0, 10, near=1, far=1), row, 2, 0))
        self.assertEqual(may_open(self.door, row, 3, 0), (1, 3))

    def test_others_buttons_count_for_nothing(self):
        door = door_of([("a", 0, 10, None), ("b", 0, 10, None)], near=1, far=1)
        row = [sent("b", 0, 11), sent("a", 0, 11), sent("b", 0, 12), sent("a", 0, 12)]
        self.assertEqual(may_open(door, row, 3, 0), (1, 3))
        self.assertEqual(may_open(door, row, 2, 0), (0, 2))

    def test_unknown_and_strange_ones(self):
        row = [sent("c", 0, 11), wrong_sum("gate", 0, 11), labelled("gate", -1, 11), labelled("gate", 2, 11)]
        for k in range(4):
            for late in range(4):
                self.assertIsNone(may_open(self.door, row, k, late))

    def test_against_all_hearings(self):
        for seed in range(60):
            chance = random.Random(seed)
            door = some_door(chance)
            row = some_row(chance, chance.choice((1, 3, 4, 5)))
            for late in range(4):
                found = all_hearings(door, row, late)
                for k in range(len(row)):
                    self.assertEqual(may_open(door, row, k, late), plain_may_open(found, k))

    def test_against_all_hearings_of_longer_rows(self):
        for seed in range(3):
            chance = random.Random(seed)
            door = door_of([("a", 0, 3, None)], near=1, far=chance.choice((1, 2, 3)))
            counts = [4, 5, 6, 7, 8, 9, 10]
            chance.shuffle(counts)
            row = [sent("a", 0, count) for count in counts]
            for late in (0, 1, 3):
                found = all_hearings(door, row, late)
                for k in range(len(row)):
                    self.assertEqual(may_open(door, row, k, late), plain_may_open(found, k))


class ComesTo(unittest.TestCase):
    def test_by_hand(self):
        door = door_with("gate", 0, 10, near=1, far=3)
        row = [sent("gate", 0, 11), sent("gate", 0, 13)]
        self.assertEqual(comes_to(door, row, 0), (
            (("gate", 0, 10, None),), (("gate", 0, 10, (0, 13)),),
            (("gate", 0, 11, None),), (("gate", 0, 11, (0, 13)),)))
        # Heard the other way round what waited is gone as it opens.
        self.assertEqual(comes_to(door, row, 1), comes_to(door, row, 0))

    def test_what_late_brings(self):
        door = door_with("gate", 0, 10, near=1, far=1)
        row = [sent("gate", 0, 12), sent("gate", 0, 11)]
        self.assertEqual(comes_to(door, row, 0), ((("gate", 0, 10, None),), (("gate", 0, 11, None),)))
        self.assertEqual(comes_to(door, row, 1), (
            (("gate", 0, 10, None),), (("gate", 0, 11, None),), (("gate", 0, 12, None),)))

    def test_an_empty_row(self):
        door = door_of([("a", 0, 3, None), ("b", 1, 5, (1, 12))])
        for late in range(4):
            self.assertEqual(comes_to(door, [], late), (door.known_now(),))

    def test_a_door_that_knows_nothing(self):
        self.assertEqual(comes_to(new_door(), [sent("gate", 0, 3)], 0), ((),))

    def test_none_ahead_of_what_waits(self):
        door = door_of([("a", 0, 3, None), ("b", 0, 3, None)], near=1, far=5)
        row = [sent("b", 0, 6), sent("a", 0, 7), sent("a", 0, 5)]
        rows_of_a = (("a", 0, 3, None), ("a", 0, 3, (0, 5)), ("a", 0, 3, (0, 7)))
        rows_of_b = (("b", 0, 3, None), ("b", 0, 3, (0, 6)))
        self.assertEqual(
            comes_to(door, row, 0), tuple((one, other) for one in rows_of_a for other in rows_of_b))

    def test_what_waits_may_be_of_several_ages(self):
        door = door_of([("a", 0, 3, None)], near=1, far=5)
        row = [sent("a", 1, 5), sent("a", 0, 8)]
        self.assertEqual(comes_to(door, row, 0), (
            (("a", 0, 3, None),), (("a", 0, 3, (0, 8)),), (("a", 0, 3, (1, 5)),)))

    def test_ages_rise_ahead_of_last_counts(self):
        door = door_of([("a", 0, 3, None)], near=4, far=4)
        row = [sent("a", 0, 6), sent("a", 1, 4), sent("a", 1, 7)]
        self.assertEqual(comes_to(door, row, 0), (
            (("a", 0, 3, None),), (("a", 0, 6, None),), (("a", 1, 4, None),), (("a", 1, 7, None),)))
        self.assertEqual(comes_to(door, row[:2], 1), (
            (("a", 0, 3, None),), (("a", 0, 6, None),), (("a", 1, 4, None),)))

    def test_the_doors_own_is_among_them(self):
        for seed in range(20):
            chance = random.Random(seed)
            door = some_door(chance)
            for late in (0, 2):
                self.assertIn(door.known_now(), comes_to(door, some_row(chance, 5), late))

    def test_against_all_hearings(self):
        for seed in range(80):
            chance = random.Random(seed)
            door = some_door(chance)
            row = some_row(chance, chance.choice((1, 3, 4, 5)))
            for late in range(4):
                self.assertEqual(comes_to(door, row, late), plain_comes_to(all_hearings(door, row, late)))

    def test_ten_presses_in_order(self):
        for seed in range(4):
            chance = random.Random(seed)
            door = some_door(chance)
            row = some_row(chance, 10)
            self.assertEqual(comes_to(door, row, 0), plain_comes_to(all_hearings(door, row, 0)))

    def test_seven_presses_late(self):
        for seed in range(3):
            chance = random.Random(seed)
            door = door_of([("a", 0, 3, None), ("b", 0, 4, None)], near=1, far=4)
            row = [sent(chance.choice("aab"), 0, chance.randrange(4, 9)) for k in range(7)]
            for late in (1, 2, 3):
                self.assertEqual(comes_to(door, row, late), plain_comes_to(all_hearings(door, row, late)))

    def test_ten_buttons(self):
        names = "abcdefghij"
        door = door_of([(name, 0, 3, None) for name in names], most=12)
        row = [sent(name, 0, 4) for name in reversed(names)]
        told = comes_to(door, row, 0)
        self.assertEqual(len(told), 1024)
        self.assertEqual(told[0], door.known_now())
        self.assertEqual(told[1], door.known_now()[:9] + (("j", 0, 4, None),))
        self.assertEqual(told[-1], tuple((name, 0, 4, None) for name in names))


class Sure(unittest.TestCase):
    def test_by_hand(self):
        door = door_with("gate", 0, 10, near=2, far=8)
        row = [sent("gate", 0, count) for count in (11, 12, 13)]
        # 12 is near, whatever was heard; 13 is far where nothing was.
        self.assertEqual(sure(door, row), (0, 1))

    def test_what_is_heard_ahead_may_make_it_old(self):
        door = door_with("gate", 0, 10, near=2, far=8)
        row = [sent("gate", 0, count) for count in (12, 11, 12)]
        self.assertEqual(sure(door, row), (0,))

    def test_in_order_alone(self):
        door = door_with("gate", 0, 10, near=2, far=2)
        # 12 is old behind 11 and then 13, but so they are not heard.
        row = [sent("gate", 0, count) for count in (13, 11, 12)]
        self.assertEqual(sure(door, row), (1, 2))

    def test_what_waits(self):
        door = door_of([("gate", 0, 10, (0, 15))], near=2, far=8)
        self.assertEqual(sure(door, [sent("gate", 0, 16)]), (0,))
        self.assertEqual(sure(door, [sent("gate", 0, 18), sent("gate", 0, 16)]), ())

    def test_none(self):
        door = door_with("gate", 0, 10)
        self.assertEqual(sure(door, []), ())
        self.assertEqual(sure(door, [sent("gate", 0, 10), sent("a", 0, 11), wrong_sum("gate", 0, 11)]), ())

    def test_several_buttons(self):
        door = door_of([("a", 0, 3, None), ("b", 0, 3, None)], near=1, far=1)
        row = [sent("a", 0, 4), sent("b", 0, 4), sent("a", 0, 5), sent("b", 0, 4)]
        self.assertEqual(sure(door, row), (0, 1))

    def test_a_newer_age_ahead(self):
        door = door_with("gate", 0, 10, near=4)
        row = [sent("gate", 1, 11), sent("gate", 0, 12), sent("gate", 1, 13)]
        self.assertEqual(sure(door, row), (0, 2))

    def test_against_all_hearings(self):
        for seed in range(80):
            chance = random.Random(seed)
            door = some_door(chance)
            row = some_row(chance, chance.choice((1, 4, 6, 7)))
            self.assertEqual(sure(door, row), plain_sure(all_hearings(door, row, 0), len(row)))

    def test_ten_presses(self):
        door = door_with("gate", 0, 10, near=4, far=8)
        row = [sent("gate", 0, count) for count in (11, 12, 13, 14, 15, 16, 17, 18, 19, 20)]
        self.assertEqual(sure(door, row), (0, 1, 2, 3))


class LeastLost(unittest.TestCase):
    def row_of(self, *counts):
        return [sent("gate", 0, count) for count in counts]

    def test_not_let_in_anyway(self):
        door = door_with("gate", 0, 10, near=2, far=4)
        self.assertEqual(least_lost(door, self.row_of(10), 0), ())
        self.assertEqual(least_lost(door, self.row_of(12, 11), 1), ())
        self.assertEqual(least_lost(door, [sent("a", 0, 11)], 0), ())
        self.assertEqual(least_lost(door, [wrong_sum("gate", 0, 11)], 0), ())
        self.assertEqual(least_lost(door, [labelled("gate", 2, 11)], 0), ())

    def test_let_in_whatever_is_lost(self):
        door = door_with("gate", 0, 10, near=2, far=4)
        self.assertIsNone(least_lost(door, self.row_of(11), 0))
        self.assertIsNone(least_lost(door, self.row_of(11, 12), 1))
        self.assertIsNone(least_lost(door, [sent("a", 0, 11)] + self.row_of(11), 1))

    def test_one_is_enough(self):
        door = door_with("gate", 0, 10, near=1, far=1)
        row = self.row_of(11, 12, 13)
        self.assertEqual(least_lost(door, row, 1), (0,))
        # By the loss of any of both: the first one is told.
        self.assertEqual(least_lost(door, row, 2), (0,))

    def test_the_fewest(self):
        door = door_with("gate", 0, 10, near=2, far=2)
        # 13 is let in behind 11 or 12, each by itself.
        self.assertEqual(least_lost(door, self.row_of(11, 12, 13), 2), (0, 1))
        # 15 is let in behind 13 or 14, which 12 alone brings in together.
        self.assertEqual(least_lost(door, self.row_of(12, 13, 14, 15), 3), (0,))
        # A later one that is enough goes ahead of two that are first.
        self.assertEqual(least_lost(door, self.row_of(11, 12, 13, 15), 3), (2,))

    def test_the_first_of_several_ways(self):
        # 12 is old where 16 is let in: by what waits, without 11, or by two in
        # a row, without 14.
        door = door_of([("gate", 0, 10, (0, 15))], near=2, far=8)
        row = self.row_of(11, 16, 15, 14, 16, 12)
        self.assertEqual(least_lost(door, row, 5), (0,))
        self.assertEqual(plain_least_lost(door, row, 5), (0,))
        self.assertEqual(least_lost(door, row[:1] + row[2:], 4), (2,))

    def test_others_are_never_among_them(self):
        door = door_of([("a", 0, 10, None), ("gate", 0, 10, None)], near=1, far=1)
        row = [sent("a", 0, 11), sent("gate", 0, 11), sent("gate", 0, 12)]
        self.assertEqual(least_lost(door, row, 2), (1,))

    def test_those_behind_count_for_nothing(self):
        door = door_with("gate", 0, 10, near=1, far=1)
        self.assertEqual(least_lost(door, self.row_of(11, 12, 11, 12), 1), (0,))

    def test_against_all_losses(self):
        for seed in range(120):
            chance = random.Random(seed)
            door = some_door(chance)
            row = some_row(chance, chance.choice((2, 4, 6)))
            for k in range(len(row)):
                self.assertEqual(least_lost(door, row, k), plain_least_lost(door, row, k))

    def test_against_all_losses_of_ten(self):
        for near, far in ((1, 1), (2, 2), (2, 5), (3, 3), (3, 9)):
            door = door_with("gate", 0, 10, near=near, far=far)
            for counts in (range(11, 21), (11, 12, 14, 13, 15, 16, 16, 18, 19, 20)):
                row = self.row_of(*counts)
                self.assertEqual(least_lost(door, row, 9), plain_least_lost(door, row, 9))


class Asked(unittest.TestCase):
    def questions(self, door, row):
        told = [heard(door, row, (0, 0, 2, 1)), sure(door, row)]
        for late in range(4):
            told.append(comes_to(door, row, late))
        for k in range(len(row)):
            told.append(least_lost(door, row, k))
            told.append(may_open(door, row, k, 2))
        return tuple(told)

    def test_the_door_and_the_row_stay_as_they_were(self):
        for seed in range(20):
            chance = random.Random(seed)
            door = some_door(chance)
            row = some_row(chance, 6)
            kept = list(row)
            ahead = state_of(door)
            told = self.questions(door, row)
            check_told(self, told)
            self.assertEqual(state_of(door), ahead)
            self.assertEqual(row, kept)
            self.assertEqual(self.questions(door, row), told)
            self.assertEqual(self.questions(door, tuple(row)), told)

    def test_what_was_told_stays(self):
        door = door_with("gate", 0, 10, near=1, far=4)
        row = [sent("gate", 0, count) for count in (11, 13, 14)]
        told = self.questions(door, row)
        kept = repr(told)
        door.hear(row[0])
        row.clear()
        self.assertEqual(repr(told), kept)

    def test_the_log_of_a_door_that_heard_much(self):
        door = door_with("gate", 0, 10, near=1, far=4)
        for count in range(11, 40):
            door.hear(sent("gate", 0, count))
        ahead = door.log_now()
        heard(door, [sent("gate", 0, 40)], (0,))
        self.assertEqual(door.log_now(), ahead)
        self.assertEqual(door.hear(sent("gate", 0, 40)), ("open", "gate", 0))


if __name__ == "__main__":
    unittest.main()
