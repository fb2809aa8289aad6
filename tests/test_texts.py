"""Part 13 [31], [32]: texts."""

import random
import unittest

from squeezedkeyer.errors import InvalidRuns, InvalidSyntax
from squeezedkeyer.marks import runs_of
from squeezedkeyer.texts import format_record, format_rules, format_runs, parse_record, parse_rules
from tests.helpers import (
    GREAT, RECORD, RULES, STRANGE, WRONG_RECORDS, WRONG_RULES, Clumsy, check_errors, check_raises, check_returns,
    replaced, touches,
)
from tests.plain import small_cases, some_rules
from tests.test_letters import NO_RUNS

TEXT = "2 6 2 3 held yes l"
NO_STRINGS = [*STRANGE, 0, [TEXT], (TEXT,), b"2 6 2 0 none no turn"]
# Words that are no numbers, of any kind.
NO_NUMBERS = ["", "+1", "01", "00", "-", "--1", "1.0", "1e3", "1_0", "x", "0x1", " ", "\n", "1\n", "\n1", "1\n2", "s", "no",
              "1" * 31, "0" * 30]


class CallsTest(unittest.TestCase):
    def returns(self, expected, call, *arguments):
        check_returns(self, expected, call, *arguments)

    def refused(self, word, call, text):
        check_raises(self, InvalidSyntax, {"line": 0 if isinstance(word, int) else None, "word": word}, call, text)


class RulesTest(CallsTest):
    def test_there_and_back(self):
        chance = random.Random(81)
        for _ in range(300):
            rules = some_rules(chance, chance.choice([5, 10 ** 9, GREAT // 2]))
            text = format_rules(rules)
            words = [*map(str, rules[:4]), rules[4], "yes" if rules[5] else "no", rules[6]]
            self.assertEqual(text, " ".join(words))
            self.returns(rules, parse_rules, text)
        self.returns("1 1 1 0 none no turn", format_rules, (1, 1, 1, 0, "none", False, "turn"))
        self.returns((1, 1, 1, 0, "none", False, "turn"), parse_rules, "1 1 1 0 none no turn")

    def test_each_word(self):
        words = TEXT.split(" ")
        for index in range(7):
            wrong = NO_NUMBERS + ["-1", "-0"] + (["0"] if index < 3 else []) if index < 4 else []
            if index >= 4:
                wrong = ["", "1", "x", "True", "False", "None", "Yes", "NO", "Held", "y", "n", "held\n", "no\n", "turn\n"]
                wrong += [word for word in ["none", "press", "held", "yes", "no", "turn", "stay", "s", "l"]
                          if word not in [["none", "press", "held"], ["yes", "no"], ["turn", "stay", "s", "l"]][index - 4]]
            for word in wrong:
                text = " ".join(replaced(words, index, word))
                self.refused(index, parse_rules, text)
                # What stands behind does not count, too much or wrong.
                self.refused(index, parse_rules, " ".join(words[:index] + [word]))
                self.refused(index, parse_rules, " ".join(words[:index] + [word] * 9))
        for index, right in [(0, "1"), (0, "9" * 30), (3, "0"), (3, "9" * 30), (4, "none"), (5, "no"), (6, "stay")]:
            found = parse_rules(" ".join(replaced(words, index, right)))
            self.assertEqual(found[index], {"no": False}.get(right, int(right) if index < 4 else right))

    def test_too_few_words_and_too_many(self):
        words = TEXT.split(" ")
        for many in range(7):
            self.refused(many, parse_rules, " ".join(words[:many]))
        for more in ("0", "x", "", "l", "\n"):
            self.refused(7, parse_rules, f"{TEXT} {more}")
            self.refused(7, parse_rules, f"{TEXT} {more} 1")
        self.refused(6, parse_rules, TEXT + "\n")

    def test_spaces(self):
        self.refused(0, parse_rules, " " + TEXT)
        self.refused(7, parse_rules, TEXT + " ")
        self.refused(0, parse_rules, " ")
        self.refused(0, parse_rules, "  ")
        for index in range(1, 7):
            words = TEXT.split(" ")
            self.refused(index, parse_rules, " ".join(words[:index] + [""] + words[index:]))
        self.refused(0, parse_rules, TEXT.replace(" ", "\n"))

    def test_wrong_values(self):
        check_errors(self, format_rules, (RULES, WRONG_RULES))
        for value in NO_STRINGS:
            self.refused(None, parse_rules, value)


class RecordTest(CallsTest):
    def test_there_and_back(self):
        for _, record, _ in small_cases(1, random.Random(82)):
            words = [f"{tick}{lever}{'+' if is_press else '-'}" for tick, lever, is_press in record]
            self.returns(" ".join(words), format_record, record)
            self.returns(record, parse_record, " ".join(words))
        for record in [[], RECORD, touches(200), [(-GREAT, "s", True), (GREAT, "s", False)],
                       [(-1, "l", True), (0, "l", False), (0, "s", True), (0, "s", False)]]:
            self.returns(record, parse_record, format_record(record))
        long = [(-GREAT, "s", index % 2 == 0) for index in range(200)]
        self.assertEqual(len(format_record(long)), 200 * 33 + 199)
        self.returns(long, parse_record, format_record(long))

    def test_wrong_words(self):
        ticks = NO_NUMBERS + ["-00", "-0", "-01", "- 1", "-" + "1" * 31, "1-", "+0"]
        wrong = [tick + "s+" for tick in ticks] + [
            "0s", "0+", "s+", "+", "0", "0S+", "0x+", "0s*", "0s++", "0s+-", "0ss+", "0sl+", "0 s+", "0s +", "0s+\n",
            "0\ns+", "\n0s+", "+s0", "s0+", "0s=", "", "-s+",
        ]
        for word in wrong:
            self.refused(0, parse_record, word or " ")
            self.refused(2, parse_record, f"-9s+ -8s- {word} 9s-")
            self.refused(2, parse_record, f"-9s+ -8s- {word} x")
        self.refused(0, parse_record, "5s+\n6s-")

    def test_ticks_at_their_borders(self):
        for tick in ("0", "1", "-1", "10", "-10", "9" * 30, "-" + "9" * 30):
            self.returns([(int(tick), "l", True), (int(tick), "l", False)], parse_record, f"{tick}l+ {tick}l-")

    def test_words_at_wrong_places(self):
        for text, word in [
            ("0s-", 0), ("0s+", 1), ("0s+ 1s+", 1), ("0s+ 1l-", 1), ("0s+ -1s-", 1), ("0s+ 1s- 0l+ 1l-", 2),
            ("0s+ 1l+ 2s-", 3), ("0s+ 1l+ 2s- 3l- 3l-", 4), ("0s+ 1l+ 2s- 3s- 4l-", 3), ("5s+ 5s- 4s- 4s+", 2),
            ("5s+ 4s+", 1), ("0s+ 1s- x", 2), ("0s+ x 1s+", 1),
        ]:
            self.refused(word, parse_record, text)

    def test_two_hundred_words_and_one_more(self):
        text = format_record(touches(200))
        self.assertEqual(len(parse_record(text)), 200)
        for more in ("9999s+", "x", "", "0s+", "9999s+ 9999s-"):
            self.refused(200, parse_record, f"{text} {more}")
        self.refused(199, parse_record, text.rsplit(" ", 1)[0])
        self.refused(199, parse_record, text.rsplit(" ", 1)[0] + " x 1s+")

    def test_spaces(self):
        for text, word in [(" ", 0), (" 0s+ 0s-", 0), ("0s+  0s-", 1), ("0s+ 0s- ", 2), ("0s+ 0s-  ", 2), ("\n", 0)]:
            self.refused(word, parse_record, text)

    def test_wrong_values(self):
        check_errors(self, format_record, (RECORD, WRONG_RECORDS))
        for value in NO_STRINGS:
            self.refused(None, parse_record, value)


class RunsTest(CallsTest):
    def test_runs_of_records(self):
        for rules, record, _ in small_cases(1, random.Random(83)):
            runs = runs_of(rules, record)
            expected = " ".join(f"{begin}:{word}*{times}" for begin, word, times in runs)
            self.returns(expected, format_runs, runs)

    def test_any_runs(self):
        for runs, text in [
            ([], ""), ([(0, "s", 1)], "0:s*1"), ([(5, "ls", 10 ** 29), (-3, "sl", 2)], f"5:ls*1{'0' * 29} -3:sl*2"),
            ([(0, "l", 1), (0, "l", 1)], "0:l*1 0:l*1"), ([(9 - index, "s", 1) for index in range(300)], None),
        ]:
            self.returns(text or " ".join(f"{begin}:s*1" for begin, _, _ in runs), format_runs, runs)

    def test_wrong_values(self):
        wrong = [(value, InvalidRuns, {"index": None}) for value in
                 [None, True, 0, 1.5, "", "0:s*1", (), ((0, "s", 1),), {}, Clumsy()]]
        wrong += [([item], InvalidRuns, {"index": 0}) for item in NO_RUNS]
        wrong += [([(0, "s", 1)] * 200 + [item, None], InvalidRuns, {"index": 200}) for item in NO_RUNS]
        check_errors(self, format_runs, ([], wrong))


if __name__ == "__main__":
    unittest.main()
