"""Point [5]: key_of, press_of, read_press; and [2] as far as it reaches them."""

import unittest

from rollcode.presses import key_of, press_of, read_press
from rollcode.tables import coded, decoded
from tests.samples import BACKWARD, KEYS, MIXED, PLAIN, TABLES, check_row

NAMES = ("a", "q", "z", "bz", "gate", "stuvw", "zzzzzzzz", "stuvwxyz")

# The edges of a count's three digits, the least digit first.
COUNTS = (
    (0, (0, 0, 0)),
    (1, (1, 0, 0)),
    (15, (15, 0, 0)),
    (16, (0, 1, 0)),
    (17, (1, 1, 0)),
    (255, (15, 15, 0)),
    (256, (0, 0, 1)),
    (2748, (12, 11, 10)),
    (4080, (0, 15, 15)),
    (4095, (15, 15, 15)),
)

# By the plain table and the house's key (0,); the four digits stand beside.
KEYS_BY_HAND = (
    ("a", (0, 1, 3, 6)),          # 0 0 0 0
    ("b", (1, 2, 4, 7)),          # 1 0 0 0
    ("p", (15, 0, 2, 5)),         # 15 0 0 0
    ("q", (0, 2, 4, 7)),          # 0 1 0 0
    ("z", (9, 11, 13, 0)),        # 9 1 0 0
    ("ab", (0, 1, 4, 7)),         # 0 0 1 0
    ("ba", (1, 2, 4, 7)),         # 1 0 0 0, as of b
    ("bz", (2, 3, 14, 2)),        # 1 0 9 1
    ("bcd", (4, 5, 9, 12)),       # 1 + 3 0 2 0
    ("door", (2, 3, 4, 8)),       # 3 + 14 0 14 + 1 0 + 1
    ("stuvw", (14, 2, 12, 1)),    # 12 3 8 2
    ("stuvwx", (15, 3, 4, 10)),   # 12 3 15 3
    ("stuvwxy", (7, 12, 13, 3)),  # 20 4 15 3
    ("stuvwxyz", (8, 13, 7, 14)),  # 20 4 24 4
    ("zzzzzzzz", (8, 13, 3, 10)),  # 36 4 36 4
)


class KeyOf(unittest.TestCase):
    def test_by_hand_by_the_plain_table(self):
        for name, told in KEYS_BY_HAND:
            with self.subTest(name=name):
                self.assertEqual(key_of(PLAIN, (0,), name), told)

    def test_by_hand_by_another_table(self):
        # The table's at 5, 6, 17, 13.
        self.assertEqual(key_of(MIXED, (5,), "a"), (0, 10, 5, 7))
        # Of 0 1 0 0: at 5, 7, 20, 17.
        self.assertEqual(key_of(MIXED, (5,), "q"), (0, 13, 9, 5))

    def test_each_letter(self):
        for place, letter in enumerate("abcdefghijklmnopqrstuvwxyz"):
            four = (place % 16, place // 16, 0, 0)
            for table in TABLES:
                for key in KEYS:
                    self.assertEqual(key_of(table, key, letter), coded(table, key, four))

    def test_four_digits_are_told(self):
        for table in TABLES:
            for key in KEYS:
                for name in NAMES:
                    check_row(self, key_of(table, key, name), 4)

    def test_tables_and_keys_as_lists(self):
        for key in KEYS:
            for name in NAMES:
                handed, by = list(MIXED), list(key)
                told = key_of(MIXED, key, name)
                self.assertEqual(key_of(handed, by, name), told)
                self.assertEqual(key_of(handed, key, name), told)
                self.assertEqual(key_of(MIXED, by, name), told)
                self.assertEqual((handed, by), (list(MIXED), list(key)))
                check_row(self, key_of(handed, by, name), 4)

    def test_by_its_arguments_names(self):
        self.assertEqual(key_of(table=PLAIN, key=(0,), name="b"), (1, 2, 4, 7))


class PressOf(unittest.TestCase):
    def test_by_hand(self):
        # The button's key is (0, 1, 3, 6), the five digits are noughts:
        # 0 1 3 6 10, 11 14 4 14 13, 11 13 6 10 14, 15 3 1 4 12.
        self.assertEqual(press_of(PLAIN, (0,), "a", 0, 0, 0), ("a", 0, (15, 3, 1, 4, 12)))

    def test_the_five_digits(self):
        for count, three in COUNTS:
            for deed in range(16):
                four = three + (deed,)
                five = four + (sum(four) % 16,)
                for table in TABLES:
                    name, age, code = press_of(table, (3, 9), "gate", 2, count, deed)
                    self.assertEqual(decoded(table, key_of(table, (3, 9), "gate"), code), five)

    def test_the_sum_by_hand(self):
        key = key_of(MIXED, (5,), "q")
        for count, deed, five in (
                (0, 0, (0, 0, 0, 0, 0)),
                (0, 15, (0, 0, 0, 15, 15)),
                (1, 15, (1, 0, 0, 15, 0)),
                (256, 3, (0, 0, 1, 3, 4)),
                (255, 7, (15, 15, 0, 7, 5)),
                (4095, 15, (15, 15, 15, 15, 12))):
            code = press_of(MIXED, (5,), "q", 0, count, deed)[2]
            self.assertEqual(code, coded(MIXED, key, five))

    def test_its_name_and_age(self):
        for name in NAMES:
            codes = []
            for age in range(8):
                press = press_of(MIXED, (5,), name, age, 77, 4)
                self.assertIs(type(press), tuple)
                self.assertEqual(press[:2], (name, age))
                check_row(self, press[2], 5)
                codes.append(press[2])
            # The code is by the key and the count alone.
            self.assertEqual(codes, [codes[0]] * 8)

    def test_tables_and_keys_as_lists(self):
        for key in KEYS:
            table, by = list(MIXED), list(key)
            told = press_of(MIXED, key, "gate", 7, 4095, 15)
            self.assertEqual(press_of(table, by, "gate", 7, 4095, 15), told)
            self.assertEqual((table, by), (list(MIXED), list(key)))

    def test_by_its_arguments_names(self):
        self.assertEqual(
            press_of(table=PLAIN, key=(0,), name="a", age=7, count=0, deed=0),
            ("a", 7, (15, 3, 1, 4, 12)))


class ReadPress(unittest.TestCase):
    def test_by_hand(self):
        self.assertEqual(read_press(PLAIN, (0,), ("a", 0, (15, 3, 1, 4, 12))), (0, 0))

    def test_reads_what_was_pressed(self):
        for table in TABLES:
            for key in KEYS:
                for age in (0, 7):
                    for count, three in COUNTS:
                        press = press_of(table, key, "stuvwxyz", age, count, count % 16)
                        self.assertEqual(read_press(table, key, press), (count, count % 16))

    def test_reads_all_deeds_and_names(self):
        for name in NAMES:
            for deed in range(16):
                for count, three in COUNTS:
                    press = press_of(MIXED, (3, 9), name, 7, count, deed)
                    self.assertEqual(read_press(MIXED, (3, 9), press), (count, deed))

    def test_reads_every_count(self):
        codes = set()
        for count in range(4096):
            press = press_of(MIXED, (7, 0, 15), "gate", 0, count, 9)
            codes.add(press[2])
            self.assertEqual(read_press(MIXED, (7, 0, 15), press), (count, 9))
        self.assertEqual(len(codes), 4096)

    def test_tells_a_pair_of_numbers(self):
        press = press_of(MIXED, (5,), "q", 0, 1, 1)
        for handed in (press, list(press), ["q", 0, list(press[2])]):
            told = read_press(MIXED, (5,), handed)
            self.assertIs(type(told), tuple)
            self.assertEqual([type(part) for part in told], [int, int])

    def test_none_where_the_fifth_digit_is_not_the_sum(self):
        for table in (PLAIN, BACKWARD, MIXED):
            for four in ((0, 0, 0, 0), (1, 0, 0, 2), (15, 15, 15, 15), (0, 1, 8, 9)):
                for fifth in range(16):
                    code = coded(table, key_of(table, (3, 9), "z"), four + (fifth,))
                    told = read_press(table, (3, 9), ("z", 3, code))
                    if fifth == sum(four) % 16:
                        self.assertEqual(told, (four[0] + 16 * four[1] + 256 * four[2], four[3]))
                    else:
                        self.assertIs(told, None)

    def test_by_another_key_or_name_what_that_one_makes_of_it(self):
        press = press_of(MIXED, (5,), "gate", 0, 100, 1)
        told = []
        for key, name in (((6,), "gate"), ((5, 0), "gate"), ((5,), "door"), ((5,), "q")):
            five = decoded(MIXED, key_of(MIXED, key, name), press[2])
            wanted = None
            if sum(five[:4]) % 16 == five[4]:
                wanted = (five[0] + 16 * five[1] + 256 * five[2], five[3])
            self.assertEqual(read_press(MIXED, key, (name, 0, press[2])), wanted)
            told.append(wanted)
        self.assertIn(None, told)

    def test_lists_are_the_same_and_stay(self):
        for key in KEYS:
            press = press_of(MIXED, key, "bz", 7, 4095, 3)
            table, by, code = list(MIXED), list(key), list(press[2])
            handed = ["bz", 7, code]
            self.assertEqual(read_press(table, by, handed), (4095, 3))
            self.assertEqual(read_press(table, by, press), (4095, 3))
            self.assertEqual((table, by), (list(MIXED), list(key)))
            self.assertEqual(handed, ["bz", 7, list(press[2])])

    def test_by_its_arguments_names(self):
        press = ("a", 0, (15, 3, 1, 4, 12))
        self.assertEqual(read_press(table=PLAIN, key=(0,), press=press), (0, 0))


if __name__ == "__main__":
    unittest.main()
