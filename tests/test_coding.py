"""Point [4]: coded and decoded; and [2] as far as it reaches them."""

import unittest

from rollcode.tables import coded, decoded
from tests.samples import BACKWARD, KEYS, MIXED, PLAIN, TABLES, check_row


def rows_of(length):
    """Rows of that length: the edges, and some in between."""
    rows = [(0,) * length, (15,) * length, PLAIN[:length], BACKWARD[:length]]
    for start in range(0, 16 - length + 1):
        rows.append(MIXED[start:start + length])
    return rows


def every_case():
    for table in TABLES:
        for key in KEYS:
            for length in range(2, 9):
                for row in rows_of(length):
                    yield table, key, row


# (table, key, row, what is told), reckoned by hand.
BY_HAND = (
    # Place 0: 0 + 0 + 0 + 0 = 0; place 1: 0 + 0 + 1 + 0 = 1.
    (PLAIN, (0,), (0, 0), (0, 1)),
    # Place 0: 2 + 1 + 0 + 3 = 6; place 1: 3 + 1 + 1 + 6 = 11.
    (PLAIN, (1,), (2, 3), (6, 11)),
    # On from (6, 11): 6 + 2 + 0 + 11 = 19, 3; 11 + 2 + 1 + 3 = 17, 1.
    (PLAIN, (1, 2), (2, 3), (3, 1)),
    # The other order: (7, 13), then 7 + 1 + 13 = 21, 5; 13 + 1 + 1 + 5 = 20, 4.
    (PLAIN, (2, 1), (2, 3), (5, 4)),
    # 15 + 0 + 15 = 30, 14; 15 + 1 + 14 = 30, 14; 15 + 2 + 14 = 31, 15.
    (PLAIN, (0,), (15, 15, 15), (14, 14, 15)),
    # The digit ahead of place 0 is the last: 0 + 0 + 0 + 5 = 5; 1 + 5 = 6; 5 + 2 + 6 = 13.
    (PLAIN, (0,), (0, 0, 5), (5, 6, 13)),
    # Backward at 0 is 15; at 0 + 0 + 1 + 15 = 16, 0, it is 15.
    (BACKWARD, (0,), (0, 0), (15, 15)),
    # At 15 + 15 + 15 = 45, 13: 2; at 15 + 15 + 1 + 2 = 33, 1: 14.
    (BACKWARD, (15,), (15, 15), (2, 14)),
    # By 3 at 7, 19, 19: (13, 11, 11); then by 9 at 33, 26, 37: 5, 15, 0.
    (MIXED, (3, 9), (1, 2, 3), (5, 15, 0)),
    # At 5, 6, 17, 13, 16, 22, 21, 12.
    (MIXED, (5,), (0, 0, 0, 0, 0, 0, 0, 0), (0, 10, 5, 7, 12, 10, 0, 4)),
    # At 35, 32, 34, 29, 31, 27, 34, 33.
    (MIXED, (5,), (15, 15, 15, 15, 15, 15, 15, 15), (11, 12, 6, 7, 2, 8, 6, 5)),
)


class ByHand(unittest.TestCase):
    def both_ways(self, table, key, row, told):
        with self.subTest(table=table, key=key, row=row):
            self.assertEqual(coded(table, key, row), told)
            self.assertEqual(decoded(table, key, told), row)

    def test_small_inputs(self):
        for table, key, row, told in BY_HAND:
            self.both_ways(table, key, row, told)

    def test_rows_of_two_to_eight_noughts(self):
        # The last one is nought at first, so a longer row begins the same.
        sums = (0, 1, 3, 6, 10, 15, 5, 12)
        mixed = (0, 10, 5, 7, 12, 10, 0, 4)
        for length in range(2, 9):
            row = (0,) * length
            self.both_ways(PLAIN, (0,), row, sums[:length])
            self.both_ways(MIXED, (5,), row, mixed[:length])

    def test_rows_of_two_to_eight_fifteens(self):
        mixed = (11, 12, 6, 7, 2, 8, 6, 5)
        for length in range(2, 9):
            self.both_ways(MIXED, (5,), (15,) * length, mixed[:length])

    def test_keys_of_one_to_eight_digits(self):
        # Each round by the plain table: (a + b + k, b + k + 1 + the new a).
        told = ((1, 3), (6, 12), (5, 5), (14, 8), (11, 9), (10, 10), (11, 13), (0, 6))
        for many in range(1, 9):
            key = (1, 2, 3, 4, 5, 6, 7, 8)[:many]
            self.both_ways(PLAIN, key, (0, 0), told[many - 1])

    def test_by_its_arguments_names(self):
        self.assertEqual(coded(table=PLAIN, key=(1,), digits=(2, 3)), (6, 11))
        self.assertEqual(decoded(table=PLAIN, key=(1,), digits=(6, 11)), (2, 3))


class BackAndForth(unittest.TestCase):
    def test_decoded_of_coded_is_the_row(self):
        for table, key, row in every_case():
            self.assertEqual(decoded(table, key, coded(table, key, row)), row)

    def test_coded_of_decoded_is_the_row(self):
        for table, key, row in every_case():
            self.assertEqual(coded(table, key, decoded(table, key, row)), row)

    def test_all_rows_of_two_are_told_apart(self):
        rows = [(a, b) for a in range(16) for b in range(16)]
        for table in TABLES:
            for key in KEYS:
                told = {coded(table, key, row) for row in rows}
                self.assertEqual(told, set(rows))


class Kinds(unittest.TestCase):
    def test_tuples_of_digits_are_told(self):
        for table, key, row in every_case():
            check_row(self, coded(table, key, row), len(row))
            check_row(self, decoded(table, key, row), len(row))

    def test_lists_are_told_tuples_too(self):
        told = coded(list(MIXED), [3, 9], [1, 2, 3])
        check_row(self, told, 3)
        check_row(self, decoded(list(MIXED), [3, 9], list(told)), 3)

    def test_tuples_and_lists_are_the_same(self):
        for told_by in (coded, decoded):
            for key in KEYS:
                row = MIXED[:8]
                told = told_by(MIXED, key, row)
                for table in (MIXED, list(MIXED)):
                    for by in (key, list(key)):
                        for of in (row, list(row)):
                            self.assertEqual(told_by(table, by, of), told)

    def test_lists_that_were_handed_in_stay(self):
        for told_by in (coded, decoded):
            table, key, row = list(MIXED), [3, 9, 4], [1, 2, 3, 4, 5]
            told_by(table, key, row)
            self.assertEqual(table, list(MIXED))
            self.assertEqual(key, [3, 9, 4])
            self.assertEqual(row, [1, 2, 3, 4, 5])

    def test_nothing_handed_in_is_kept(self):
        for told_by in (coded, decoded):
            table, key, row = list(MIXED), [3, 9], [1, 2, 3]
            first = told_by(table, key, row)
            table.reverse()
            key.append(1)
            row.append(0)
            self.assertEqual(first, told_by(MIXED, (3, 9), (1, 2, 3)))
            again = told_by(table, key, row)
            self.assertEqual(again, told_by(MIXED[::-1], (3, 9, 1), (1, 2, 3, 0)))


if __name__ == "__main__":
    unittest.main()
