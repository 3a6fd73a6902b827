"""Point [3]: is_table, is_key, back_table; and [2] as far as it reaches them."""

import unittest

from rollcode.tables import back_table, is_key, is_table
from tests.samples import BACKWARD, MIXED, PLAIN, TABLES, check_row


def deep(depth, shut):
    """Something that holds itself no more than depth times."""
    thing = shut([0])
    for _ in range(depth):
        thing = shut([thing])
    return thing


# None of these is a table or a key, whatever it is made of.
NEITHER = (
    None, True, False, 0, 1, 15, 16, -1, 10 ** 40, -(10 ** 40),
    "", "a", "0", "0123456789abcdef", " \n~",
    (), [], [[]], ((),), [()], ([],), (None,), ("",), ("0",), ("a",),
    (0, "1"), (0, None), (0, (1,)), (0, [1]), ((0,), (1,)), ([0], [1]),
    (-1,), (16,), (0, -1), (0, 16), (10 ** 40,), (-(10 ** 40), 1),
    (True,), (False,), (0, True), (False, 1), [0], [1, 2, 3], [0, 1, 2, 3, 4, 5, 6, 7],
    deep(5000, tuple), deep(5000, list),
)


def with_at(row, place, thing):
    return row[:place] + (thing,) + row[place + 1:]


class IsTable(unittest.TestCase):
    def no_table(self, thing):
        self.assertIs(is_table(thing), False)

    def test_tables_in_several_orders(self):
        turned = [PLAIN[k:] + PLAIN[:k] for k in range(16)]
        for table in list(TABLES) + turned:
            self.assertIs(is_table(table), True)

    def test_lists_are_none(self):
        for table in TABLES:
            self.no_table(list(table))

    def test_a_digit_twice(self):
        for place in range(1, 16):
            self.no_table(with_at(PLAIN, place, 0))
        self.no_table((7,) * 16)

    def test_a_digit_twice_with_a_sum_as_it_should_be(self):
        # 1 and 4 give place to 2 and 3: the sum stays 120.
        self.no_table((0, 2, 2, 3, 3) + PLAIN[5:])

    def test_one_left_out(self):
        for place in range(16):
            self.no_table(PLAIN[:place] + PLAIN[place + 1:])

    def test_one_more(self):
        for thing in (0, 7, 15, 16, -1, None):
            self.no_table(PLAIN + (thing,))
            self.no_table((thing,) + MIXED)
        self.no_table(PLAIN + PLAIN)

    def test_numbers_beyond_the_digits(self):
        for number in (-1, -16, 16, 17, 255, 10 ** 40):
            for place in range(16):
                self.no_table(with_at(MIXED, place, number))
        self.no_table(tuple(range(1, 17)))
        self.no_table(tuple(range(-1, 15)))

    def test_true_and_false_are_no_digits(self):
        for table in TABLES:
            self.no_table(with_at(table, table.index(1), True))
            self.no_table(with_at(table, table.index(0), False))
        self.no_table((False, True) + PLAIN[2:])

    def test_other_things_in_a_digit_s_place(self):
        for thing in ("0", "", "f", None, (), [], (0,), [0], (1, 2), PLAIN):
            for place in (0, 7, 15):
                self.no_table(with_at(PLAIN, place, thing))

    def test_sixteen_other_things(self):
        for thing in (None, "0", (0,), [0], True, False, (), []):
            self.no_table((thing,) * 16)
        self.no_table(tuple("0123456789abcdef"))
        self.no_table("0123456789abcdef")
        self.no_table([list(PLAIN)])
        self.no_table((PLAIN,))

    def test_whatever_else(self):
        for thing in NEITHER:
            self.no_table(thing)

    def test_keys_are_none(self):
        for many in range(1, 9):
            self.no_table(PLAIN[:many])

    def test_a_list_within_stays(self):
        inner = [1, 2]
        self.no_table((inner,) + PLAIN[1:])
        self.assertEqual(inner, [1, 2])
        whole = list(MIXED)
        self.no_table(whole)
        self.assertEqual(whole, list(MIXED))


class IsKey(unittest.TestCase):
    def no_key(self, thing):
        self.assertIs(is_key(thing), False)

    def test_one_digit(self):
        for digit in range(16):
            self.assertIs(is_key((digit,)), True)

    def test_one_to_eight_digits(self):
        for many in range(1, 9):
            for table in TABLES:
                self.assertIs(is_key(table[:many]), True)
            self.assertIs(is_key((0,) * many), True)
            self.assertIs(is_key((15,) * many), True)

    def test_none_and_more_than_eight(self):
        self.no_key(())
        for many in range(9, 20):
            self.no_key((0,) * many)
        self.no_key(PLAIN[:9])
        self.no_key(PLAIN)

    def test_numbers_beyond_the_digits(self):
        for number in (-1, -16, 16, 17, 10 ** 40):
            self.no_key((number,))
            self.no_key((number, 0))
            self.no_key((0, 1, 2, 3, 4, 5, 6, number))

    def test_true_and_false_are_no_digits(self):
        for thing in (True, False):
            self.no_key((thing,))
            self.no_key((0, thing))
            self.no_key((thing, 1, 2, 3, 4, 5, 6, 7))

    def test_texts_and_lists(self):
        for thing in ("0", "01", "a", "", ("0",), (0, "1"), ("",)):
            self.no_key(thing)
        for many in range(9):
            self.no_key(list(PLAIN[:many]))
        for thing in (([0],), ((0,),), (0, ()), (0, []), (None,), (0, None)):
            self.no_key(thing)

    def test_whatever_else(self):
        for thing in NEITHER:
            self.no_key(thing)


class BackTable(unittest.TestCase):
    def test_by_hand(self):
        self.assertEqual(back_table(PLAIN), PLAIN)
        self.assertEqual(back_table(BACKWARD), BACKWARD)
        # 0 stands at place 5, 1 at 14, 2 at 15, 3 at 8 and so on.
        self.assertEqual(
            back_table(MIXED),
            (5, 14, 15, 8, 12, 1, 2, 13, 11, 4, 6, 3, 0, 7, 9, 10))

    def test_a_turned_one(self):
        # Digit 1 at place 0 and so on, digit 0 at the end.
        self.assertEqual(
            back_table((1, 2, 3, 4, 5, 6, 7, 8, 9, 10, 11, 12, 13, 14, 15, 0)),
            (15, 0, 1, 2, 3, 4, 5, 6, 7, 8, 9, 10, 11, 12, 13, 14))

    def test_leads_back_both_ways(self):
        for table in TABLES:
            back = back_table(table)
            for digit in range(16):
                self.assertEqual(back[table[digit]], digit)
                self.assertEqual(table[back[digit]], digit)

    def test_once_more_is_the_table(self):
        for table in TABLES:
            self.assertEqual(back_table(back_table(table)), table)

    def test_a_table_is_told(self):
        for table in TABLES:
            for handed in (table, list(table)):
                check_row(self, back_table(handed), 16)
                self.assertIs(is_table(back_table(handed)), True)

    def test_of_a_list_too_and_it_stays(self):
        for table in TABLES:
            handed = list(table)
            self.assertEqual(back_table(handed), back_table(table))
            self.assertEqual(handed, list(table))

    def test_a_list_that_is_changed_later_changes_nothing_told(self):
        handed = list(MIXED)
        told = back_table(handed)
        handed.reverse()
        self.assertEqual(told, back_table(MIXED))
        self.assertEqual(back_table(handed), back_table(MIXED[::-1]))


if __name__ == "__main__":
    unittest.main()
