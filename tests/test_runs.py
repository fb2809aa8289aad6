"""Tidy lists [7]."""

import random
import unittest

from squeezedkeyer.marks import kinds_of, runs_of
from squeezedkeyer.runs import tidy_kinds, tidy_runs
from tests.plain import all_marks, plain_kinds, plain_runs

RULES = (2, 6, 2, 0, "none", False, "turn")
LONG = 10 ** 29


def touched(kinds, gaps=""):
    """A record with a touch of its own for each of these kinds; a digit is what a gap has more than the pause."""
    record = []
    tick = 0
    for at, kind in enumerate(kinds):
        tick += int(gaps[at]) if at < len(gaps) else 0
        record += [(tick, kind, True), (tick, kind, False)]
        tick += 4 if kind == "s" else 8
    return record


class TidyTest(unittest.TestCase):
    def kinds(self, kinds, expected):
        """Kinds of marks as a string, and their tidy list as a text."""
        found = [f"{word}{times}" for word, times in kinds_of(RULES, touched(kinds))]
        self.assertEqual(" ".join(found), expected, kinds)
        self.assertEqual([(word, times) for _, word, times in runs_of(RULES, touched(kinds))],
                         kinds_of(RULES, touched(kinds)), kinds)

    def test_one_kind(self):
        for kinds, expected in [("s", "s1"), ("ss", "s2"), ("sss", "s3"), ("l", "l1"), ("llll", "l4")]:
            self.kinds(kinds, expected)
        for kinds, expected in [("ssl", "s2 l1"), ("sll", "s1 l2"), ("ssll", "s2 l2"), ("llsl", "l2 s1 l1")]:
            self.kinds(kinds, expected)

    def test_marks_that_alternate(self):
        self.kinds("sl", "s1 l1")
        self.kinds("sls", "s1 l1 s1")
        self.kinds("slsl", "sl2")
        self.kinds("lsls", "ls2")
        self.kinds("slsls", "sl2 s1")
        self.kinds("slslsl", "sl3")
        self.kinds("lslslsl", "ls3 l1")

    def test_what_comes_behind_marks_that_alternate(self):
        self.kinds("slsll", "sl2 l1")
        self.kinds("slslss", "sl2 s2")
        self.kinds("slslsl" + "ss", "sl3 s2")
        self.kinds("slsls" + "s", "sl2 s2")
        self.kinds("slsls" + "sl", "sl2 s2 l1")
        self.kinds("slsls" + "slsl", "sl2 s2 l1 s1 l1")
        self.kinds("slsls" + "slsls", "sl2 s2 ls2")
        self.kinds("slsl" + "lsls", "sl2 ls2")
        self.kinds("sls" + "s", "s1 l1 s2")
        self.kinds("ss" + "lsls", "s2 ls2")
        self.kinds("s" + "slsl", "s2 l1 s1 l1")
        self.kinds("sl" + "ll", "s1 l3")

    def test_gaps_of_just_the_pause_and_greater_ones(self):
        for gaps, expected in [
            ("", [(0, "sl", 2)]),
            ("01", [(0, "s", 1), (5, "l", 1), (13, "s", 1), (17, "l", 1)]),
            ("001", [(0, "s", 1), (4, "l", 1), (13, "s", 1), (17, "l", 1)]),
            ("0001", [(0, "s", 1), (4, "l", 1), (12, "s", 1), (17, "l", 1)]),
            ("1", [(1, "sl", 2)]),
        ]:
            self.assertEqual(runs_of(RULES, touched("slsl", gaps)), expected)
            self.assertEqual(kinds_of(RULES, touched("slsl", gaps)), [("sl", 2)])
        self.assertEqual(runs_of(RULES, touched("ssss", "0010")), [(0, "s", 2), (9, "s", 2)])
        self.assertEqual(runs_of(RULES, touched("ssss", "0090")), [(0, "s", 2), (17, "s", 2)])
        self.assertEqual(kinds_of(RULES, touched("ssss", "0010")), [("s", 4)])
        self.assertEqual(runs_of(RULES, touched("slslslsl", "00003")), [(0, "sl", 2), (27, "sl", 2)])
        self.assertEqual(kinds_of(RULES, touched("slslslsl", "00003")), [("sl", 4)])

    def test_some_lists_against_the_words_of_the_point(self):
        chance = random.Random(5)
        for _ in range(4000):
            tick, runs = chance.randint(-9, 9), []
            for _ in range(chance.randint(1, 8)):
                word = chance.choice(["s", "l", "sl", "ls"])
                times = chance.choice([1, 1, 1, 2, 3, 4])
                runs.append((tick, word, times))
                tick += times * sum(4 if kind == "s" else 8 for kind in word) + chance.choice([0, 0, 0, 0, 1, 5])
            marks = all_marks(RULES, runs)
            self.assertEqual(tidy_runs(RULES, runs), plain_runs(RULES, marks))
            self.assertEqual(tidy_kinds(runs), plain_kinds(marks))

    def test_very_many_times(self):
        runs = [(0, "sl", LONG), (12 * LONG, "s", LONG), (16 * LONG, "ls", LONG), (28 * LONG, "l", 1)]
        expected = [(0, "sl", LONG), (12 * LONG, "s", LONG), (16 * LONG, "ls", LONG), (28 * LONG, "l", 1)]
        self.assertEqual(tidy_runs(RULES, runs), expected)
        self.assertEqual(tidy_kinds([(0, "sl", LONG), (12 * LONG, "sl", LONG)]), [("sl", 2 * LONG)])
        self.assertEqual(tidy_kinds([(0, "sl", LONG), (12 * LONG, "ls", LONG)]), [("sl", LONG), ("ls", LONG)])
        self.assertEqual(tidy_kinds([(0, "sl", LONG), (12 * LONG, "s", 1), (13 * LONG, "l", LONG)]),
                         [("sl", LONG + 1), ("l", LONG - 1)])
        self.assertEqual(tidy_kinds([(0, "l", 1), (8, "sl", LONG), (14 * LONG, "l", 2)]),
                         [("ls", LONG), ("l", 3)])
        self.assertEqual(tidy_runs(RULES, [(0, "l", 1), (8, "sl", LONG), (8 + 12 * LONG, "s", 1)]),
                         [(0, "ls", LONG + 1)])
        self.assertEqual(tidy_runs(RULES, [(0, "l", 1), (8, "sl", LONG), (9 + 12 * LONG, "s", 1)]),
                         [(0, "ls", LONG), (12 * LONG, "l", 1), (9 + 12 * LONG, "s", 1)])


if __name__ == "__main__":
    unittest.main()
