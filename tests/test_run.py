"""Point [18]: runs of sheets."""

import unittest

from rollcode.errors import BadRow
from rollcode.run import run

FIRST = "house c56b90ad3ef84712 39"


def answers(*rows):
    """What is told of these rows behind the house's."""
    return run("\n".join((FIRST,) + rows))


FURNISHED = ("door front 4 20 2", "door back 2 8 1", "button gate 8", "button bell 16", "teach front gate")
DONE = ("done",) * len(FURNISHED)


def behind(*rows):
    """What is told of these rows in a house that is furnished."""
    told = answers(*FURNISHED + rows)
    assert told[:len(FURNISHED)] == DONE
    return told[len(FURNISHED):]


class EachRow(unittest.TestCase):
    def test_a_house_alone(self):
        self.assertEqual(run(FIRST), ())
        self.assertEqual(run("\n\n" + FIRST + "\n\n"), ())

    def test_what_is_done(self):
        self.assertEqual(behind(
            "lose gate", "tear gate", "turn 0f", "turned gate", "close 1", "forget front gate", "teach back gate",
            "door side 1 1 1", "button a 1"), ("done",) * 9)

    def test_empty_rows_have_no_answer(self):
        self.assertEqual(run("\n" + FIRST + "\n\ndoor front 4 20 2\n\n\nlog front\n"), ("done", "0"))

    def test_press(self):
        self.assertEqual(behind("press gate 5 front"), ("2 open:5",))
        self.assertEqual(behind("press gate f front"), ("2 open:f",))
        self.assertEqual(behind("press gate a front front back"), ("2 open:a held:old held:unknown",))
        self.assertEqual(behind("press gate 0"), ("2",))
        self.assertEqual(behind("press bell 0 back front", "press bell 1"), ("2 held:unknown held:unknown", "3"))

    def test_each_deed_is_a_sign(self):
        for sign in "0123456789abcdef":
            self.assertEqual(behind(f"press gate {sign} front"), (f"2 open:{sign}",))

    def test_each_word(self):
        told = behind(
            "play 0 back", "turn 1", "button new 4", "press new 0 front", "play 1 front", "lose gate",
            "press gate 0 front", "lose gate", "lose gate", "press gate 0 front", "lose gate", "press gate 0 front",
            "close 1", "press gate 0 front")
        self.assertEqual(told, (
            "held:unknown", "done", "done", "2 held:unknown", "held:old", "done",
            "3 held:far", "done", "done", "4 held:far", "done", "5 held:beyond",
            "done", "6 held:age"))

    def test_play(self):
        self.assertEqual(
            behind("press gate b", "play 2 front", "play 2 front"), ("2", "open:b", "held:old"))

    def test_known(self):
        self.assertEqual(behind("known front"), ("gate 0 1",))
        self.assertEqual(behind("known back"), ("-",))
        self.assertEqual(
            behind("lose gate", "press gate 0 front", "known front"), ("done", "2 held:far", "gate 0 1 0:8"))
        self.assertEqual(
            behind("teach front bell", "known front"), ("done", "bell 0 1 ; gate 0 1"))
        self.assertEqual(
            behind("teach front bell", "turn 5", "turned bell", "lose bell", "press bell 0 front", "known front"),
            ("done", "done", "done", "done", "4 held:far", "bell 0 1 1:16 ; gate 0 1"))

    def test_now(self):
        self.assertEqual(behind("now gate"), ("0 2 0 8",))
        self.assertEqual(behind("now bell"), ("0 0 0 -",))
        self.assertEqual(behind("lose gate", "tear gate", "now gate"), ("done", "done", "0 8 - 8"))
        self.assertEqual(behind("turn 5", "turned gate", "now gate"), ("done", "done", "1 2 0 8"))

    def test_opened(self):
        self.assertEqual(behind("opened front"), ("-",))
        self.assertEqual(behind("press gate 0 front", "opened front"), ("2 open:0", "2"))
        self.assertEqual(
            behind("press gate 0 front", "press gate 0", "press gate 0 front", "opened front", "opened back"),
            ("2 open:0", "3", "4 open:0", "2 4", "-"))

    def test_apart(self):
        self.assertEqual(answers("apart"), ("-",))
        self.assertEqual(answers("door a 4 20 3", "apart"), ("done", "-"))
        self.assertEqual(answers("door b 4 20 3", "door a 1 1 1", "apart"), ("done", "done", "a b agree"))
        self.assertEqual(behind("apart"), ("back front gate.0.2",))

    def test_apart_of_three(self):
        told = answers(
            "button gate 8", "door c 8 20 3", "door b 8 21 3", "door a 8 20 3", "teach a gate", "teach b gate",
            "teach c gate", "press gate 0 a b c", "apart")
        self.assertEqual(told[-2:], (
            "6 open:0 open:0 open:0", "a b gate.0.26 gate.0.27 ; a c agree ; b c gate.0.26 gate.0.27"))

    def test_needs(self):
        self.assertEqual(behind("needs front gate"), ("1",))
        self.assertEqual(behind("needs back gate"), ("-",))
        self.assertEqual(behind("lose gate", "needs front gate"), ("done", "2"))

    def test_log(self):
        self.assertEqual(behind("log back", "log front"), ("0", "1"))
        self.assertEqual(
            behind("press gate 0 front front", "turn 5", "close 1", "log front", "log back"),
            ("2 open:0 held:old", "done", "done", "5", "2"))
        # A door that comes later has closed what is closed, as its own row.
        self.assertEqual(behind("turn 5", "close 1", "door side 1 1 1", "log side")[-1], "1")

    def test_all_are_texts(self):
        told = behind("press gate 0 front", "known front", "now gate", "opened front", "apart", "needs front gate",
                      "log front", "play 0 side", "play 7 front")
        self.assertIs(type(told), tuple)
        for text in told:
            self.assertIs(type(text), str)


class Refused(unittest.TestCase):
    def test_known(self):
        self.assertEqual(
            behind("door front 1 1 1", "button gate 1", "teach front gate"), ("refused Known",) * 3)

    def test_full(self):
        self.assertEqual(behind("teach back bell", "teach back gate"), ("done", "refused Full"))

    def test_unknown(self):
        for row in (
                "teach side gate", "teach front other", "press other 0", "press gate 0 side", "press gate 0 front side",
                "play 0 side", "lose other", "tear front", "turned other", "close 1", "close 7", "forget side gate",
                "forget front other", "forget front bell", "forget back gate"):
            self.assertEqual(behind(row), ("refused Unknown",))

    def test_asks(self):
        for row in ("known gate", "known side", "now front", "now other", "opened side", "needs side gate",
                    "needs front other", "log side", "log gate"):
            self.assertEqual(behind(row), ("refused Unknown",))

    def test_worn(self):
        self.assertEqual(behind("turned gate"), ("refused Worn",))
        self.assertEqual(behind("turn 5", "turned gate", "turned gate"), ("done", "done", "refused Worn"))

    def test_too_many(self):
        self.assertEqual(behind(*["turn 5"] * 8), ("done",) * 7 + ("refused TooMany",))

    def test_bad_press(self):
        self.assertEqual(behind("play 2 front", "play 9999 front"), ("refused BadPress",) * 2)
        self.assertEqual(behind("turn 5", "close 1", "teach back gate"), ("done", "done", "refused BadPress"))

    def test_a_refusal_changes_nothing(self):
        self.assertEqual(
            behind("teach front gate", "press gate 0 side", "now gate", "log front", "play 2 front"),
            ("refused Known", "refused Unknown", "0 2 0 8", "1", "refused BadPress"))

    def test_a_sheet_that_is_not_well_written(self):
        for text, row in (
                ("", 1), ("\n\n", 3), ("door front 4 20 2", 0), (FIRST + "\nx", 1), (FIRST + "\nclose 1\n\nclose 8", 3),
                (FIRST + "\n" + FIRST, 1), ("\n" * 120, 120), (FIRST + "\napart" * 120, 120)):
            with self.assertRaises(BadRow) as caught:
                run(text)
            self.assertEqual(caught.exception.row, row)

    def test_120_rows(self):
        self.assertEqual(run(FIRST + "\napart" * 119), ("-",) * 119)


class Sheets(unittest.TestCase):
    LONG = (
        "door front 4 20 2", "door back 2 8 2", "button gate 8", "teach front gate", "teach back gate",
        "press gate 1 front back", "press gate 2", "press gate 3 back front", "lose gate", "press gate 4 back",
        "press gate 5 back", "known front", "known back", "apart", "needs front gate", "play 8 front", "play 8 front",
        "opened front", "opened back", "turn 7", "turned gate", "press gate 6 front back", "close 1", "play 9 back",
        "known front", "known back", "apart", "log front", "log back", "forget back gate", "press gate 7 front back",
        "now gate")
    TOLD = (
        "done", "done", "done", "done", "done",
        "4 open:1 open:1", "5", "6 open:3 open:3", "done", "7 open:4",
        "8 open:5", "gate 0 6", "gate 0 9", "back front gate.0.7", "1", "open:5", "held:old",
        "4 6 8", "4 6 7 8", "done", "done", "9 open:6 open:6", "done", "held:old",
        "gate 1 10", "gate 1 10", "back front gate.1.13", "8", "9", "done", "10 open:7 held:unknown",
        "1 12 16 8")

    def test_a_long_one(self):
        self.assertEqual(run("\n".join((FIRST,) + self.LONG)), self.TOLD)

    def test_two_by_turns_are_told_as_each_alone(self):
        one = "\n".join((FIRST,) + self.LONG)
        other = "\n".join(("house 0123456789abcdef 1",) + FURNISHED + ("press gate 0 front", "log front", "now gate"))
        first, second = run(one), run(other)
        for k in range(3):
            self.assertEqual(run(one), first)
            self.assertEqual(run(other), second)

    def test_another_table_and_key_tell_the_same(self):
        # What a house tells doesn't hang on its codes.
        told = run("\n".join((FIRST,) + self.LONG))
        self.assertEqual(run("\n".join(("house 0123456789abcdef 0",) + self.LONG)), told)


if __name__ == "__main__":
    unittest.main()
