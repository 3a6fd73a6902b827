"""Point [7]: class Button; and [1], [2] as far as they reach it."""

import random
import unittest

from rollcode.buttons import Button
from rollcode.errors import Worn
from rollcode.presses import press_of, read_press
from tests.samples import HOUSE, MIXED, PLAIN, check_told, sent


def new_button(step, name="gate", age=0):
    return Button(name, MIXED, HOUSE[age], age, step)


def press_times(button, times):
    return [button.press_once(0) for k in range(times)]


def press_up_to(button, count):
    """Presses till the button's next count is this one."""
    press_times(button, count - button.count_now())


def count_of(press):
    return read_press(MIXED, HOUSE[press[1]], press)[0]


def state_of(button):
    return (button.name_told(), button.age_now(), button.count_now(), button.cells_now())


class AtFirst(unittest.TestCase):
    def test_what_is_told(self):
        for name in ("a", "gate", "zzzzzzzz"):
            for age in (0, 3, 7):
                for step in (1, 2, 64):
                    button = new_button(step, name, age)
                    self.assertEqual(state_of(button), (name, age, 0, (0, None)))

    def test_by_its_arguments_names(self):
        button = Button(name="a", table=PLAIN, key=(0,), age=7, step=1)
        self.assertEqual(button.press_once(deed=0), ("a", 7, (15, 3, 1, 4, 12)))
        button = Button(name="a", table=MIXED, key=HOUSE[0], age=0, step=1)
        self.assertIs(button.turn_key(key=HOUSE[1]), None)
        self.assertEqual(button.press_once(3), sent("a", 1, 0, 3))

    def test_kinds_of_what_is_told(self):
        button = new_button(2)
        for k in range(5):
            check_told(self, state_of(button))
            check_told(self, button.press_once(k))

    def test_nothing_is_told_of_what_is_done(self):
        button = new_button(2)
        self.assertIs(button.cell_out(), None)
        self.assertIs(button.cell_torn(), None)
        self.assertIs(button.turn_key(HOUSE[1]), None)


class Presses(unittest.TestCase):
    def test_a_row_of_presses(self):
        for step in (1, 2, 5, 64):
            button = new_button(step)
            for count in range(200):
                self.assertEqual(button.count_now(), count)
                deed = (count * 7) % 16
                self.assertEqual(button.press_once(deed), sent("gate", 0, count, deed))

    def test_by_name_table_key_and_age(self):
        for name in ("a", "stuvwxyz"):
            for age in range(8):
                for table in (PLAIN, MIXED):
                    button = Button(name, table, HOUSE[age], age, 2)
                    for count in range(3):
                        self.assertEqual(
                            button.press_once(15),
                            press_of(table, HOUSE[age], name, age, count, 15))

    def test_all_counts_then_worn(self):
        button = new_button(64)
        for count in range(4096):
            self.assertEqual(count_of(button.press_once(count % 16)), count)
        self.check_worn(button)

    def check_worn(self, button):
        ahead = state_of(button)
        self.assertEqual(ahead[2], 4096)
        for deed in (0, 15, 3):
            with self.assertRaises(Worn) as caught:
                button.press_once(deed)
            self.assertIs(type(caught.exception), Worn)
            self.assertEqual(state_of(button), ahead)

    def test_the_last_count_is_pressed(self):
        for step in (1, 2, 3, 63, 64):
            button = new_button(step)
            self.go_out_up_to(button, 4096 - step)
            press_up_to(button, 4095)
            self.assertEqual(button.press_once(9), sent("gate", 0, 4095, 9))
            self.check_worn(button)

    def go_out_up_to(self, button, count):
        """The cell goes out again and again, till the count is as great as this."""
        while button.count_now() < count:
            button.press_once(0)
            button.cell_out()

    def test_worn_by_cells_that_go_out(self):
        for step in (1, 7, 60, 64):
            button = new_button(step)
            self.go_out_up_to(button, 4096)
            self.check_worn(button)
            button.cell_out()
            self.check_worn(button)
            button.cell_torn()
            self.check_worn(button)

    def test_worn_stays_so_by_another_key(self):
        button = new_button(64)
        self.go_out_up_to(button, 4096)
        button.turn_key(HOUSE[1])
        self.check_worn(button)
        self.assertEqual(button.age_now(), 1)


class Writes(unittest.TestCase):
    def check_cells(self, step, rows):
        """In each row the cells behind one press more."""
        button = new_button(step)
        for k, cells in enumerate(rows):
            button.press_once(0)
            self.assertEqual(button.cells_now(), cells)
            self.assertEqual(button.count_now(), k + 1)

    def test_step_one(self):
        self.check_cells(1, [(0, 1), (2, 1), (2, 3), (4, 3), (4, 5), (6, 5)])

    def test_step_two(self):
        self.check_cells(2, [(0, 2), (0, 2), (4, 2), (4, 2), (4, 6), (4, 6), (8, 6)])

    def test_step_sixty_four(self):
        self.check_cells(64, [(0, 64)] * 64 + [(128, 64)] * 64 + [(128, 192)])

    def check_end(self, step, count, ahead, behind):
        """The last write, at this count: its cells ahead and behind."""
        button = new_button(step)
        press_up_to(button, count)
        self.assertEqual(button.cells_now(), ahead)
        press_up_to(button, 4096)
        self.assertEqual(button.cells_now(), behind)

    def test_a_bound_of_4096_at_most(self):
        # 63 * 65 is 4095: the 66th write, into the cell at 0, is cut to 4096.
        self.check_end(63, 4095, (4032, 4095), (4096, 4095))
        # 60 * 68 is 4080: the 69th write, into the cell at 1, is cut to 4096.
        self.check_end(60, 4080, (4080, 4020), (4080, 4096))

    def test_a_bound_that_is_just_4096(self):
        self.check_end(64, 4032, (3968, 4032), (4096, 4032))
        self.check_end(1, 4095, (4094, 4095), (4096, 4095))
        self.check_end(2, 4094, (4092, 4094), (4096, 4094))


class CellOut(unittest.TestCase):
    def test_ahead_of_any_press(self):
        for step in (1, 2, 64):
            button = new_button(step)
            button.cell_out()
            self.assertEqual(state_of(button), ("gate", 0, 0, (0, None)))
            button.cell_out()
            self.assertEqual(state_of(button), ("gate", 0, 0, (0, None)))
            self.assertEqual(button.press_once(1), sent("gate", 0, 0, 1))

    def test_behind_some(self):
        for step, presses, count, cells in (
            (1, 1, 1, (0, 1)),
            (1, 2, 2, (2, 1)),
            (1, 3, 3, (2, 3)),
            (2, 1, 2, (0, 2)),
            (2, 2, 2, (0, 2)),
            (2, 3, 4, (4, 2)),
            (2, 4, 4, (4, 2)),
            (2, 5, 6, (4, 6)),
            (64, 1, 64, (0, 64)),
            (64, 64, 64, (0, 64)),
            (64, 65, 128, (128, 64)),
            (64, 128, 128, (128, 64)),
        ):
            with self.subTest(step=step, presses=presses):
                button = new_button(step)
                press_times(button, presses)
                button.cell_out()
                self.assertEqual(state_of(button), ("gate", 0, count, cells))
                # The second one finds all as the first one left it.
                button.cell_out()
                self.assertEqual(state_of(button), ("gate", 0, count, cells))
                self.assertEqual(button.press_once(2), sent("gate", 0, count, 2))

    def test_the_next_press_writes_again(self):
        button = new_button(8)
        press_times(button, 3)
        button.cell_out()
        self.assertEqual(button.cells_now(), (0, 8))
        self.assertEqual(button.press_once(0), sent("gate", 0, 8))
        self.assertEqual(button.cells_now(), (16, 8))
        press_times(button, 7)
        self.assertEqual((button.count_now(), button.cells_now()), (16, (16, 8)))
        button.press_once(0)
        self.assertEqual(button.cells_now(), (16, 24))

    def test_up_to_the_end(self):
        button = new_button(60)
        press_up_to(button, 4081)
        button.cell_out()
        self.assertEqual(state_of(button), ("gate", 0, 4096, (4080, 4096)))
        self.assertRaises(Worn, button.press_once, 0)


class CellTorn(unittest.TestCase):
    def test_ahead_of_any_press(self):
        for step in (1, 2, 64):
            button = new_button(step)
            for k in range(2):
                button.cell_torn()
                self.assertEqual(state_of(button), ("gate", 0, 0, (0, None)))
            self.assertEqual(button.press_once(0), sent("gate", 0, 0))
            self.assertEqual(button.cells_now(), (0, step))

    def test_where_the_next_press_would_write(self):
        for step, presses, torn, behind in (
            (1, 1, (None, 1), (2, 1)),
            (1, 2, (2, None), (2, 3)),
            (1, 3, (None, 3), (4, 3)),
            (2, 2, (None, 2), (4, 2)),
            (2, 4, (4, None), (4, 6)),
            (64, 64, (None, 64), (128, 64)),
            (64, 128, (128, None), (128, 192)),
        ):
            with self.subTest(step=step, presses=presses):
                button = new_button(step)
                press_times(button, presses)
                # Once more changes nothing: the cell is None already.
                for k in range(2):
                    button.cell_torn()
                    self.assertEqual(state_of(button), ("gate", 0, presses, torn))
                button.cell_out()
                self.assertEqual(state_of(button), ("gate", 0, presses, torn))
                self.assertEqual(button.press_once(4), sent("gate", 0, presses, 4))
                self.assertEqual(button.cells_now(), behind)

    def test_where_it_would_not_write(self):
        for step, presses, count, cells in (
            (2, 1, 2, (0, 2)),
            (2, 3, 4, (4, 2)),
            (64, 1, 64, (0, 64)),
            (64, 63, 64, (0, 64)),
            (64, 65, 128, (128, 64)),
        ):
            with self.subTest(step=step, presses=presses):
                button = new_button(step)
                press_times(button, presses)
                button.cell_torn()
                self.assertEqual(state_of(button), ("gate", 0, count, cells))

    def test_torn_behind_a_cell_that_was_out(self):
        button = new_button(4)
        button.press_once(0)
        button.cell_torn()
        self.assertEqual(state_of(button), ("gate", 0, 4, (0, 4)))
        # Now count and bound are one: the next press would write.
        button.cell_torn()
        self.assertEqual(state_of(button), ("gate", 0, 4, (None, 4)))
        self.assertEqual(button.press_once(0), sent("gate", 0, 4))
        self.assertEqual(button.cells_now(), (8, 4))

    def test_the_last_write_torn(self):
        button = new_button(63)
        press_up_to(button, 4095)
        button.cell_torn()
        self.assertEqual(state_of(button), ("gate", 0, 4095, (None, 4095)))
        self.assertEqual(button.press_once(0), sent("gate", 0, 4095))
        self.assertEqual(state_of(button), ("gate", 0, 4096, (4096, 4095)))

    def test_where_it_is_worn_as_cell_out(self):
        for step, cells in ((63, (4096, 4095)), (60, (4080, 4096)), (64, (4096, 4032))):
            button = new_button(step)
            press_up_to(button, 4096)
            button.cell_torn()
            self.assertEqual(state_of(button), ("gate", 0, 4096, cells))


class TurnKey(unittest.TestCase):
    def test_up_to_age_seven_then_worn(self):
        button = new_button(2)
        for age in range(7):
            self.assertEqual(button.press_once(age), sent("gate", age, age, age))
            cells = button.cells_now()
            button.turn_key(HOUSE[age + 1])
            self.assertEqual(state_of(button), ("gate", age + 1, age + 1, cells))
        self.check_worn(button)

    def check_worn(self, button):
        ahead = state_of(button)
        with self.assertRaises(Worn) as caught:
            button.turn_key((5, 5, 5))
        self.assertIs(type(caught.exception), Worn)
        self.assertEqual(state_of(button), ahead)
        # The key is the old one, too.
        self.assertEqual(button.press_once(0), sent("gate", 7, ahead[2]))

    def test_made_of_age_six_and_seven(self):
        button = new_button(1, age=6)
        button.turn_key(HOUSE[7])
        self.check_worn(button)
        self.check_worn(new_button(1, age=7))

    def test_the_bound_goes_on(self):
        button = new_button(4)
        press_times(button, 2)
        button.turn_key(HOUSE[1])
        self.assertEqual(button.press_once(0), sent("gate", 1, 2))
        self.assertEqual(button.cells_now(), (0, 4))
        button.cell_out()
        self.assertEqual(state_of(button), ("gate", 1, 4, (0, 4)))
        self.assertEqual(button.press_once(0), sent("gate", 1, 4))

    def test_the_same_key_is_another_age(self):
        button = Button("a", PLAIN, (0,), 0, 1)
        button.turn_key((0,))
        self.assertEqual(button.press_once(0), ("a", 1, (15, 3, 1, 4, 12)))


class Apart(unittest.TestCase):
    def test_two_buttons(self):
        one, other = new_button(2), new_button(2)
        press_times(one, 3)
        self.assertEqual(state_of(other), ("gate", 0, 0, (0, None)))
        other.turn_key(HOUSE[1])
        other.press_once(0)
        other.cell_out()
        self.assertEqual(state_of(one), ("gate", 0, 3, (4, 2)))
        self.assertEqual(state_of(other), ("gate", 1, 2, (0, 2)))
        self.assertEqual(one.press_once(1), sent("gate", 0, 3, 1))
        self.assertEqual(other.press_once(1), sent("gate", 1, 2, 1))

    def test_lists_are_the_same_as_tuples(self):
        button = Button("gate", list(MIXED), list(HOUSE[0]), 0, 2)
        self.assertEqual(button.press_once(5), sent("gate", 0, 0, 5))
        button.turn_key(list(HOUSE[1]))
        self.assertEqual(button.press_once(5), sent("gate", 1, 1, 5))
        check_told(self, button.press_once(5))

    def test_lists_that_are_changed_behind(self):
        table, key, turned = list(MIXED), list(HOUSE[0]), list(HOUSE[1])
        button = Button("gate", table, key, 0, 2)
        table.reverse()
        key[0] = 8
        key.append(1)
        self.assertEqual(button.press_once(0), sent("gate", 0, 0))
        button.turn_key(turned)
        turned.clear()
        self.assertEqual(button.press_once(0), sent("gate", 1, 1))

    def test_lists_that_were_handed_in_stay(self):
        table, key, turned = list(MIXED), list(HOUSE[0]), list(HOUSE[1])
        button = Button("gate", table, key, 0, 2)
        button.press_once(0)
        button.turn_key(turned)
        press_times(button, 3)
        self.assertEqual((table, key, turned), (list(MIXED), list(HOUSE[0]), list(HOUSE[1])))

    def test_what_was_told_stays(self):
        button = new_button(1)
        cells, press = button.cells_now(), button.press_once(7)
        later = button.cells_now()
        button.cell_torn()
        button.turn_key(HOUSE[1])
        press_times(button, 5)
        self.assertEqual((cells, later), ((0, None), (0, 1)))
        self.assertEqual(press, sent("gate", 0, 0, 7))

    def test_asked_twice_is_told_the_same(self):
        button = new_button(2)
        for k in range(5):
            self.assertEqual(state_of(button), state_of(button))
            button.press_once(k)


class CountsOnlyRise(unittest.TestCase):
    def go_on(self, button, chance, steps):
        """Does anything in any order; tells the counts that were pressed."""
        counts = []
        for k in range(steps):
            ahead = button.count_now()
            deed = chance.choice(("press", "press", "press", "out", "torn", "turn"))
            if deed == "press" and ahead < 4096:
                counts.append(count_of(button.press_once(0)))
                self.assertEqual(counts[-1], ahead)
            elif deed == "out":
                button.cell_out()
            elif deed == "torn":
                button.cell_torn()
            elif button.age_now() < 7:
                button.turn_key(HOUSE[button.age_now() + 1])
            self.assertLessEqual(ahead, button.count_now())
            self.check_cells(button)
        return counts

    def check_cells(self, button):
        """One cell tells at least the count, so that it is never lost."""
        cells = [cell for cell in button.cells_now() if cell is not None]
        self.assertGreaterEqual(max(cells), button.count_now())
        self.assertLessEqual(max(cells), 4096)

    def test_in_whatever_order(self):
        for seed in range(60):
            chance = random.Random(seed)
            button = new_button(chance.choice((1, 2, 3, 7, 63, 64)))
            counts = self.go_on(button, chance, 150)
            for one, other in zip(counts, counts[1:]):
                self.assertLess(one, other)

    def test_a_cell_that_goes_out_loses_less_than_a_step(self):
        for step in (1, 2, 5, 64):
            for presses in range(0, 2 * step + 2):
                for goes in ("out", "torn"):
                    button = new_button(step)
                    press_times(button, presses)
                    if goes == "out":
                        button.cell_out()
                    else:
                        button.cell_torn()
                    self.assertIn(button.count_now() - presses, range(step))


if __name__ == "__main__":
    unittest.main()
