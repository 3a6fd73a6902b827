"""Point [6]: word_of."""

import unittest

from rollcode.windows import word_of

NEARS = (1, 2, 16, 63, 64)
LASTS = (0, 1, 100, 3000, 4094, 4095)


def fars_of(near):
    return (near, near + 1, 1024)


class ByHand(unittest.TestCase):
    def test_words(self):
        for count, last, near, far, word in (
            (0, 0, 1, 1, "old"),
            (1, 0, 1, 1, "near"),
            (2, 0, 1, 1, "beyond"),
            (2, 0, 1, 2, "far"),
            (3, 0, 1, 2, "beyond"),
            (0, 4095, 64, 1024, "old"),
            (4095, 4095, 64, 1024, "old"),
            (4095, 4094, 1, 1, "near"),
            (4095, 4031, 64, 64, "near"),
            (4095, 4030, 64, 64, "beyond"),
            (4095, 4030, 64, 65, "far"),
            (4095, 3071, 64, 1024, "far"),
            (4095, 3070, 64, 1024, "beyond"),
            (4095, 0, 64, 1024, "beyond"),
            (110, 100, 10, 50, "near"),
            (111, 100, 10, 50, "far"),
            (150, 100, 10, 50, "far"),
            (151, 100, 10, 50, "beyond"),
            (100, 100, 10, 50, "old"),
            (99, 100, 10, 50, "old"),
            (101, 100, 10, 50, "near"),
        ):
            with self.subTest(count=count, last=last, near=near, far=far):
                self.assertEqual(word_of(count, last, near, far), word)

    def test_by_its_arguments_names(self):
        self.assertEqual(word_of(count=5, last=0, near=4, far=5), "far")


class Edges(unittest.TestCase):
    def every_window(self):
        for near in NEARS:
            for far in fars_of(near):
                for last in LASTS:
                    yield last, near, far

    def test_old_up_to_last(self):
        for last, near, far in self.every_window():
            for count in {0, last - 1, last} - {-1}:
                self.assertEqual(word_of(count, last, near, far), "old")

    def test_near_behind_last(self):
        for last, near, far in self.every_window():
            for count in (last + 1, last + near - 1, last + near):
                if count > last:
                    self.assertEqual(word_of(count, last, near, far), "near")

    def test_far_behind_near(self):
        for last, near, far in self.every_window():
            for count in (last + near + 1, last + far - 1, last + far):
                if last + near < count <= last + far:
                    self.assertEqual(word_of(count, last, near, far), "far")

    def test_no_far_where_far_is_near(self):
        for near in NEARS:
            for last in LASTS:
                told = [word_of(last + k, last, near, near) for k in range(-1, near + 3)]
                self.assertEqual(
                    told, ["old", "old"] + ["near"] * near + ["beyond", "beyond"])

    def test_one_far_where_far_is_one_more(self):
        for near in NEARS:
            told = [word_of(7 + k, 7, near, near + 1) for k in range(near, near + 3)]
            self.assertEqual(told, ["near", "far", "beyond"])

    def test_beyond_behind_far(self):
        for last, near, far in self.every_window():
            for count in (last + far + 1, last + far + 2, last + 4096):
                self.assertEqual(word_of(count, last, near, far), "beyond")

    def test_the_words_of_all_counts_in_a_row(self):
        told = [word_of(count, 1000, 64, 1024) for count in range(4096)]
        self.assertEqual(
            told,
            ["old"] * 1001 + ["near"] * 64 + ["far"] * 960 + ["beyond"] * 2071)


if __name__ == "__main__":
    unittest.main()
