"""Point [17]: sheets, row by row."""

import random
import unittest

from rollcode.errors import BadRow, CodeError
from rollcode.sheet import read_sheet
from tests.samples import MIXED, check_told

TABLE = "c56b90ad3ef84712"
FIRST = f"house {TABLE} 39"
HOUSE_ROW = ("house", MIXED, (3, 9))

# Each row well written, and what is read of it.
ROWS = (
    ("door front 4 20 3", ("door", "front", 4, 20, 3)),
    ("button gate 8", ("button", "gate", 8)),
    ("teach front gate", ("teach", "front", "gate")),
    ("press gate a front", ("press", "gate", 10, "front")),
    ("play 3 front", ("play", 3, "front")),
    ("lose gate", ("lose", "gate")),
    ("tear gate", ("tear", "gate")),
    ("turn 0f", ("turn", (0, 15))),
    ("turned gate", ("turned", "gate")),
    ("close 1", ("close", 1)),
    ("forget front gate", ("forget", "front", "gate")),
    ("known front", ("known", "front")),
    ("now gate", ("now", "gate")),
    ("opened front", ("opened", "front")),
    ("apart", ("apart",)),
    ("needs front gate", ("needs", "front", "gate")),
    ("log front", ("log", "front")),
)


class Reading(unittest.TestCase):
    def row_read(self, row):
        """What is read of a row behind the first one."""
        told = read_sheet(FIRST + "\n" + row)
        self.assertEqual(len(told), 2)
        self.assertEqual(told[0], HOUSE_ROW)
        check_told(self, told)
        return told[1]

    def check_bad(self, text, row):
        with self.assertRaises(BadRow) as caught:
            read_sheet(text)
        self.assertIs(type(caught.exception.row), int)
        self.assertEqual(caught.exception.row, row)
        self.assertIsInstance(caught.exception, CodeError)

    def check_bad_row(self, row):
        """It is no row of a sheet: as the second one, or further on."""
        self.check_bad(FIRST + "\n" + row, 1)
        self.check_bad(FIRST + "\napart\n\n" + row + "\napart\n" + row, 3)


class WellWritten(Reading):
    def test_the_first_row(self):
        self.assertEqual(read_sheet(FIRST), (HOUSE_ROW,))
        told = read_sheet("house 0123456789abcdef f")
        self.assertEqual(told, (("house", tuple(range(16)), (15,)),))
        told = read_sheet("house fedcba9876543210 01234567")
        self.assertEqual(told, (("house", tuple(range(15, -1, -1)), tuple(range(8))),))

    def test_each_row(self):
        for row, values in ROWS:
            self.assertEqual(self.row_read(row), values)

    def test_all_rows_in_one_sheet(self):
        text = "\n".join([FIRST] + [row for row, values in ROWS])
        self.assertEqual(read_sheet(text), (HOUSE_ROW,) + tuple(values for row, values in ROWS))

    def test_names(self):
        for name in ("a", "z", "abcdefgh", "zzzzzzzz", "door", "house", "apart"):
            self.assertEqual(self.row_read("lose " + name), ("lose", name))

    def test_numbers_at_both_bounds(self):
        for row, values in (
                ("door a 1 1 1", ("door", "a", 1, 1, 1)), ("door a 64 64 12", ("door", "a", 64, 64, 12)),
                ("door a 64 1024 12", ("door", "a", 64, 1024, 12)), ("door a 1 1024 1", ("door", "a", 1, 1024, 1)),
                ("door a 9 10 1", ("door", "a", 9, 10, 1)),
                ("button a 1", ("button", "a", 1)), ("button a 64", ("button", "a", 64)),
                ("play 0 a", ("play", 0, "a")), ("play 10 a", ("play", 10, "a")), ("play 9999 a", ("play", 9999, "a")),
                ("close 0", ("close", 0)), ("close 7", ("close", 7))):
            self.assertEqual(self.row_read(row), values)

    def test_each_deed(self):
        for deed, sign in enumerate("0123456789abcdef"):
            self.assertEqual(self.row_read("press a " + sign), ("press", "a", deed))

    def test_press_in_the_hearing_of_some(self):
        self.assertEqual(self.row_read("press a 0"), ("press", "a", 0))
        self.assertEqual(self.row_read("press a 0 x"), ("press", "a", 0, "x"))
        self.assertEqual(self.row_read("press a 0 x y x x"), ("press", "a", 0, "x", "y", "x", "x"))
        names = ["x"] * 300
        self.assertEqual(self.row_read("press a 0 " + " ".join(names)), ("press", "a", 0) + tuple(names))

    def test_keys(self):
        self.assertEqual(self.row_read("turn 0"), ("turn", (0,)))
        self.assertEqual(self.row_read("turn 89abcdef"), ("turn", (8, 9, 10, 11, 12, 13, 14, 15)))
        self.assertEqual(self.row_read("turn 1111"), ("turn", (1, 1, 1, 1)))

    def test_a_door_that_is_not_there_may_be_named(self):
        self.assertEqual(self.row_read("log other"), ("log", "other"))


class NotWellWritten(Reading):
    def test_too_few_words(self):
        for row, values in ROWS:
            words = row.split(" ")
            # A press needs no door, and apart has no word behind it.
            least = 3 if words[0] == "press" else len(words)
            for many in range(1, least):
                self.check_bad_row(" ".join(words[:many]))

    def test_too_many_words(self):
        for row, values in ROWS:
            if values[0] != "press":
                for word in ("a", "0", "front"):
                    self.check_bad_row(row + " " + word)

    def test_blanks(self):
        for row, values in ROWS:
            self.check_bad_row(" " + row)
            self.check_bad_row(row + " ")
            if " " in row:
                self.check_bad_row(row.replace(" ", "  ", 1))
                self.check_bad_row("  ".join(row.rsplit(" ", 1)))
        for row in (" ", "  ", "   "):
            self.check_bad_row(row)

    def test_other_words(self):
        for row in (
                "Door front 4 20 3", "doors front 4 20 3", "doo front 4 20 3", "DOOR front 4 20 3", "x", "-", "done",
                "open gate", "learn front gate", "hear gate", "unheard front gate", "twin front", "#", "# remark",
                "0", "apart,", "apart-now", "TEACH front gate", "name", "key", "table", "deed"):
            self.check_bad_row(row)

    def test_numbers_one_beyond(self):
        for row in (
                "door a 0 20 3", "door a 65 70 3", "door a 4 3 3", "door a 4 1025 3", "door a 4 0 3", "door a 4 20 0",
                "door a 4 20 13", "door a 2 1 1", "door a 64 63 1",
                "button a 0", "button a 65", "play 10000 a", "close 8", "close 10"):
            self.check_bad_row(row)

    def test_numbers_that_are_none(self):
        for word in (
                "", "01", "00", "007", "+1", "-1", "-0", "1.0", "1e0", "0x1", "a", "1a", "one", "1_0", "1,", "'1'",
                "x", "1x", "9" * 5, "1" * 30, "0" * 5000, "1" * 5000, "~", "!"):
            self.check_bad_row(f"door a {word} 20 3")
            self.check_bad_row(f"door a 1 {word} 3")
            self.check_bad_row(f"door a 1 20 {word}")
            self.check_bad_row(f"button a {word}")
            self.check_bad_row(f"play {word} a")
            self.check_bad_row(f"close {word}")

    def test_noughts_ahead_of_numbers_within(self):
        for row in ("door a 04 20 3", "door a 4 020 3", "door a 4 20 03", "button a 08", "play 03 a", "close 07"):
            self.check_bad_row(row)

    def test_names_that_are_none(self):
        for name in ("abcdefghi", "Gate", "GATE", "gatE", "gate1", "1", "ga-te", "ga_te", "g.te", "", "~", "`", "{"):
            for row in (
                    f"door {name} 4 20 3", f"button {name} 8", f"teach {name} gate", f"teach front {name}",
                    f"press {name} 0 front", f"press gate 0 {name}", f"press gate 0 front {name}",
                    f"press gate 0 {name} front", f"play 3 {name}", f"lose {name}", f"tear {name}", f"turned {name}",
                    f"forget {name} gate", f"forget front {name}", f"known {name}", f"now {name}", f"opened {name}",
                    f"needs {name} gate", f"needs front {name}", f"log {name}"):
                self.check_bad_row(row)

    def test_deeds_that_are_none(self):
        for deed in ("", "g", "A", "F", "10", "00", "ff", "-", "+", "16", "~"):
            self.check_bad_row("press gate " + deed)
            self.check_bad_row(f"press gate {deed} front")

    def test_keys_that_are_none(self):
        for key in ("", "123456789", "g", "A", "1G", "0x1", "-1", "1 2", "1,2", "~", "ABC"):
            self.check_bad_row("turn " + key)
            self.check_bad(f"house {TABLE} {key}", 0)

    def test_tables_that_are_none(self):
        for table in (
                "", TABLE[:15], TABLE + "0", TABLE[:15] + TABLE[0], TABLE.upper(), "0" * 16, TABLE[:15] + "g",
                TABLE[:8] + " " + TABLE[8:], "0123456789abcdeg", "0123456789abcde", "0123456789abcdefg",
                "0123456789abcdeF"):
            self.check_bad(f"house {table} 39", 0)

    def test_the_first_row(self):
        for row in ("", "house", f"house {TABLE}", f"house {TABLE} 39 0", f"house  {TABLE} 39", f" {FIRST}",
                    f"{FIRST} ", f"House {TABLE} 39", f"house 39 {TABLE}"):
            # An empty one is passed over, and the next one is the first then.
            self.check_bad(row + "\napart", 0 if row else 1)

    def test_the_first_row_is_no_house(self):
        for row, values in ROWS:
            self.check_bad(row, 0)
            self.check_bad(row + "\n" + FIRST, 0)
            self.check_bad("\n\n" + row + "\n" + FIRST, 2)

    def test_a_house_further_on(self):
        self.check_bad(FIRST + "\n" + FIRST, 1)
        self.check_bad("\n" + FIRST + "\napart\n\n" + FIRST, 4)

    def test_the_first_of_several(self):
        self.check_bad(FIRST + "\napart\nx\ny", 2)
        self.check_bad("x\ny", 0)


class EmptyRows(Reading):
    def test_ahead_between_and_behind(self):
        for text in (
                "\n" + FIRST + "\napart", "\n\n\n" + FIRST + "\napart", FIRST + "\n\napart", FIRST + "\n\n\n\napart",
                FIRST + "\napart\n", FIRST + "\napart\n\n\n", "\n" + FIRST + "\n\napart\n"):
            self.assertEqual(read_sheet(text), (HOUSE_ROW, ("apart",)))

    def test_a_row_of_a_blank_is_not_empty(self):
        self.check_bad(FIRST + "\n \napart", 1)
        self.check_bad(" \n" + FIRST, 0)
        self.check_bad(" ", 0)
        self.check_bad("\n ", 1)

    def test_all_rows_counted(self):
        self.check_bad("\n\n" + FIRST + "\n\nx", 4)

    def test_the_empty_text(self):
        self.check_bad("", 1)

    def test_all_rows_empty(self):
        for many in (2, 3, 10, 119, 120):
            self.check_bad("\n" * (many - 1), many)
        # With one of number 120 it is that one.
        for many in (121, 122, 500):
            self.check_bad("\n" * (many - 1), 120)


class ManyRows(Reading):
    def test_120_rows(self):
        told = read_sheet("\n".join([FIRST] + ["apart"] * 119))
        self.assertEqual(told, (HOUSE_ROW,) + (("apart",),) * 119)

    def test_121_rows(self):
        self.check_bad("\n".join([FIRST] + ["apart"] * 120), 120)
        self.check_bad("\n".join([FIRST] + ["apart"] * 300), 120)

    def test_a_row_of_number_120_that_is_empty(self):
        self.check_bad("\n".join([FIRST] + ["apart"] * 119) + "\n", 120)
        self.check_bad(FIRST + "\n" * 120, 120)
        self.assertEqual(read_sheet(FIRST + "\n" * 119), (HOUSE_ROW,))

    def test_a_house_in_the_last_row(self):
        self.assertEqual(read_sheet("\n" * 119 + FIRST), (HOUSE_ROW,))
        self.check_bad("\n" * 120 + FIRST, 120)

    def test_what_is_wrong_ahead_of_it_goes_first(self):
        self.check_bad("\n".join([FIRST] + ["apart"] * 100 + ["x"] + ["apart"] * 50), 101)
        self.check_bad("\n".join([FIRST] + ["apart"] * 118 + ["x", "x"]), 119)
        self.check_bad("\n".join([FIRST] + ["apart"] * 119 + ["x"]), 120)


class SmallChanges(Reading):
    def test_each_sign_changed(self):
        """A row with one sign more, less or other is read as it's written, or refused at its number."""
        chance = random.Random(17)
        for row, values in ROWS:
            for k in range(120):
                at = chance.randrange(len(row) + 1)
                sign = chance.choice(" 0123456789abfgzAF-~.")
                changed = chance.choice((row[:at] + sign + row[at:], row[:at] + row[at + 1:], row[:at] + sign + row[at + 1:]))
                if changed == "":
                    continue
                try:
                    told = read_sheet(FIRST + "\n" + changed)
                except BadRow as error:
                    self.assertEqual(error.row, 1)
                    continue
                self.assertEqual(self.written(told[1]), changed)

    def written(self, values):
        """The row as it would be written."""
        words = []
        for place, value in enumerate(values):
            if type(value) is tuple:
                words.append("".join("0123456789abcdef"[digit] for digit in value))
            elif values[0] == "press" and place == 2:
                words.append("0123456789abcdef"[value])
            else:
                words.append(str(value))
        return " ".join(words)


if __name__ == "__main__":
    unittest.main()
