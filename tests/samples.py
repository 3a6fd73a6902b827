"""Tables and small checks that several test files share."""

PLAIN = (0, 1, 2, 3, 4, 5, 6, 7, 8, 9, 10, 11, 12, 13, 14, 15)
BACKWARD = (15, 14, 13, 12, 11, 10, 9, 8, 7, 6, 5, 4, 3, 2, 1, 0)
# In no plain order, and not its own back table.
MIXED = (12, 5, 6, 11, 9, 0, 10, 13, 3, 14, 15, 8, 4, 7, 1, 2)
TABLES = (PLAIN, BACKWARD, MIXED)

KEYS = (
    (0,),
    (15,),
    (3, 9),
    (7, 0, 15),
    (1, 2, 3, 4),
    (15, 15, 15, 15, 15),
    (0, 1, 0, 1, 0, 8),
    (9, 8, 7, 6, 5, 4, 3),
    (1, 2, 3, 4, 5, 6, 7, 8),
)


def check_row(test, row, length):
    """A row that was told is a tuple of so many digits, no True or False."""
    test.assertIs(type(row), tuple)
    test.assertEqual(len(row), length)
    for digit in row:
        test.assertIs(type(digit), int)
        test.assertIn(digit, range(16))
