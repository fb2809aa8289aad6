"""Part 6: letters [19] [20]."""

import itertools
import random
import unittest

from squeezedkeyer.errors import (
    InvalidCode, InvalidGaps, InvalidName, InvalidRuns, InvalidText,
)
from squeezedkeyer.letters import broken, is_code, joined_letter, next_letters, read, read_runs
from squeezedkeyer.marks import runs_of
from tests.helpers import (
    GREAT, NO_INTEGERS, RECORD, STRANGE, WRONG_RECORDS, WRONG_RULES, Clumsy, check_errors, check_raises,
    check_returns,
)
from tests.plain import all_marks, small_cases

LONG = 10 ** 29
RULES = (2, 6, 2, 0, "none", False, "turn")
CODE = {"e": "s", "t": "l", "a": "sl", "n": "ls", "i": "ss", "m": "ll", "5": "sssss", "h": "ssss", "0": "slslslsl"}
GAPS = (6, 14)
LETTERS = "0123456789abcdefghijklmnopqrstuvwxyz"
WORDS = ["".join(signs) for length in range(1, 9) for signs in itertools.product("sl", repeat=length)]
FULL = dict(zip(LETTERS, WORDS))

# Values with the letter of their error.
WRONG_CODES = [
    (None, None), ([], None), ((), None), ("code", None), (7, None), (list(CODE.items()), None), ({"e"}, None),
    ({}, None), ({**FULL, "A": "ssssssss"}, None), ({"": "s"}, None), ({"A": "s"}, None), ({"ab": "s"}, None),
    ({"-": "s"}, None), ({" ": "s"}, None), ({"?": "s"}, None), ({0: "s"}, None), ({None: "s"}, None),
    ({("e",): "s"}, None), ({b"e": "s"}, None), ({"e": "s", 5: "l"}, None), ({"e": None, "E": "l"}, None),
    ({True: "s"}, None), ({"01": "s"}, None), ({"az": "s"}, None),
    ({"e": ""}, "e"), ({"e": "sssssssss"}, "e"), ({"e": "x"}, "e"), ({"e": "sl "}, "e"), ({"e": "S"}, "e"),
    ({"e": None}, "e"), ({"e": 0}, "e"), ({"e": ["s"]}, "e"), ({"e": ("s",)}, "e"), ({"e": b"s"}, "e"),
    ({"e": Clumsy()}, "e"), ({"e": {}}, "e"), ({"e": "s", "i": "s"}, "i"), ({"i": "s", "e": "s"}, "i"),
    ({"t": "l", "c": "sx", "b": "s", "a": "s"}, "b"), ({"t": "l", "b": "sx", "c": "s", "a": "s"}, "b"),
    ({"c": "s", "b": "s", "a": "s"}, "b"), ({"a": "s", "9": ""}, "9"), ({"a": "s", "9": "s"}, "a"),
    ({"z": "", "y": "", "x": ""}, "x"), ({"a": None, "b": None}, "a"),
    ({**FULL, "z": "s"}, "z"), ({**FULL, "0": FULL["1"]}, "1"),
]
WRONG_CODE_ERRORS = [(value, InvalidCode, {"letter": letter}) for value, letter in WRONG_CODES]

NO_GAPS = [value for value in STRANGE if value != ()] + [
    (), 6, "", "ab", (6,), (6, 14, 20), [6, 14], (14, 6), (6, 6), (7, 6), (2, 14), (1, 14), (0, 14), (-6, 14),
    (None, 14), (6, None), (True, 14), (False, True), (6, True), (6.0, 14), (6, 14.0), ("6", 14), (6, "14"),
    (Clumsy(), 14), (6, Clumsy()),
]
WRONG_GAPS = [(value, InvalidGaps, {}) for value in NO_GAPS]

NO_RUNS = STRANGE + [
    0, "", (0, "s"), (0, "s", 1, 1), [0, "s", 1], (None, "s", 1), (True, "s", 1), ("0", "s", 1), (0.0, "s", 1),
    (0, "", 1), (0, "ss", 1), (0, "S", 1), (0, "sls", 1), (0, "lsl", 1), (0, None, 1), (0, ["s"], 1), (0, ("s",), 1),
    (0, "s", 0), (0, "s", -1), (0, "s", True), (0, "s", None), (0, "s", 1.0), (0, "s", "1"), (Clumsy(), "s", 1),
    (0, Clumsy(), 1), (0, "s", Clumsy()),
]
# Lists with the index of their error; s takes 4 ticks with its pause, l takes 8.
LISTS_WRONG = [
    (None, None), ("runs", None), ((), None), (((0, "s", 1),), None), ({}, None), (7, None), ([], None),
    ([(9 * at, "s", 1) for at in range(101)], None), ([None] * 101, None),
    ([(0, "s", 1), (3, "s", 1)], 1), ([(0, "l", 1), (7, "s", 1)], 1), ([(0, "sl", 1), (11, "s", 1)], 1),
    ([(0, "s", 1), (0, "s", 1)], 1), ([(0, "s", 1), (-9, "s", 1)], 1), ([(0, "ls", LONG), (12 * LONG - 1, "s", 1)], 1),
    ([(0, "s", 1), (4, "s", 3), (15, "s", 1)], 2), ([(0, "s", 1), None, (0, "s", 1)], 1),
    ([(0, "s", 1), (3, "s", 1), None], 1), ([(0, "s", 1), (3, "", 1)], 1), ([None, None], 0),
]
LISTS_WRONG += [([item], 0) for item in NO_RUNS] + [([(-90, "s", 1), item], 1) for item in NO_RUNS]
WRONG_LISTS = [(value, InvalidRuns, {"index": index}) for value, index in LISTS_WRONG]


def plain_reading(code, gaps, marks):
    """The reading of marks, one by one."""
    text, signs, end = "", "", None
    for begin, stop, kind in marks:
        if end is not None and begin - end >= gaps[0]:
            text += {word: letter for letter, word in code.items()}.get(signs, "?")
            signs = ""
            text += " " if begin - end >= gaps[1] else ""
        signs += kind
        end = stop
    return text + ({word: letter for letter, word in code.items()}.get(signs, "?") if signs else "")


class LettersTest(unittest.TestCase):
    def raises(self, kind, told, call, *arguments):
        check_raises(self, kind, told, call, *arguments)

    def returns(self, expected, call, *arguments):
        check_returns(self, expected, call, *arguments)


class CodeTest(LettersTest):
    def test_codes(self):
        for code in [CODE, FULL, {"e": "s"}, {"9": "llllllll"}, {"z": "s", "a": "l"}, dict(zip(LETTERS, WORDS[-36:]))]:
            self.returns(True, is_code, code)
        self.assertEqual(len(FULL), 36)

    def test_other_values(self):
        for value in STRANGE + [value for value, _ in WRONG_CODES]:
            with self.subTest(value=value):
                self.assertIs(is_code(value), False)

    def test_each_sign_as_a_letter_and_in_a_word(self):
        for sign in map(chr, range(32, 127)):
            self.returns(sign in LETTERS, is_code, {sign: "s"})
            self.returns(sign in "sl", is_code, {"e": "l" * 3 + sign})

    def test_each_length_of_a_word(self):
        for length in range(12):
            self.returns(1 <= length <= 8, is_code, {"e": "s" * length})

    def test_the_letter_of_the_error(self):
        for value, letter in WRONG_CODES:
            told = {"letter": letter}
            self.raises(InvalidCode, told, broken, value, "e")
            self.raises(InvalidCode, told, joined_letter, value, "e")
            self.raises(InvalidCode, told, next_letters, value, "s")

    def test_the_sequence_of_the_keys_plays_no_part(self):
        code = {"a": "s", "b": "x", "c": "s", "d": ""}
        for keys in itertools.permutations(code):
            self.raises(InvalidCode, {"letter": "b"}, broken, {key: code[key] for key in keys}, "a")


class ReadRunsTest(LettersTest):
    def reads(self, expected, runs, gaps=GAPS):
        self.returns(expected, read_runs, RULES, CODE, gaps, runs)

    def test_gaps_at_their_borders(self):
        # The first mark ends at 2.
        for gap, expected in [(2, "a"), (3, "a"), (5, "a"), (6, "et"), (7, "et"), (13, "et"), (14, "e t"),
                              (15, "e t"), (LONG, "e t")]:
            self.reads(expected, [(0, "s", 1), (2 + gap, "l", 1)])
        for gap, expected in [(2, "a"), (3, "et"), (4, "e t"), (5, "e t")]:
            self.reads(expected, [(0, "s", 1), (2 + gap, "l", 1)], (3, 4))
        for gap, expected in [(LONG - 1, "a"), (LONG, "et"), (2 * LONG - 1, "et"), (2 * LONG, "e t")]:
            self.reads(expected, [(-LONG, "s", 1), (2 + gap - LONG, "l", 1)], (LONG, 2 * LONG))

    def test_words_of_runs(self):
        for word, times, expected in [
            ("s", 1, "e"), ("s", 2, "i"), ("s", 3, "?"), ("s", 4, "h"), ("s", 5, "5"), ("s", 6, "?"), ("l", 1, "t"),
            ("l", 2, "m"), ("l", 3, "?"), ("sl", 1, "a"), ("ls", 1, "n"), ("sl", 2, "?"), ("sl", 4, "0"),
            ("ls", 4, "?"), ("sl", 5, "?"), ("s", 8, "?"), ("s", 9, "?"), ("s", LONG, "?"), ("sl", LONG, "?"),
        ]:
            self.reads(expected, [(7, word, times)])

    def test_marks_of_a_letter_in_several_runs(self):
        self.reads("0", [(0, "s", 1), (4, "l", 1), (12, "sl", 1), (24, "sl", 2)])
        self.reads("0", [(0, "s", 1), (5, "l", 1), (16, "sl", 1), (30, "sl", 2)])
        self.reads("?", [(0, "sl", 4), (48, "s", 1)])
        self.reads("0e", [(0, "sl", 4), (52, "s", 1)])
        self.reads("?", [(0, "s", LONG), (4 * LONG, "l", 1)])
        self.reads("?t", [(0, "s", LONG), (4 * LONG + 4, "l", 1)])
        self.reads("? t", [(0, "s", LONG), (4 * LONG + 12, "l", 1)])
        self.reads("e ? e", [(0, "s", 1), (99, "ls", LONG), (12 * LONG + 999, "s", 1)])

    def test_words_that_the_code_lacks(self):
        for word in WORDS:
            tick, runs = 0, []
            for kind in word:
                runs.append((tick, kind, 1))
                tick += 4 if kind == "s" else 8
            letters = [letter for letter, signs in CODE.items() if signs == word]
            self.returns(letters[0] if letters else "?", read_runs, RULES, CODE, GAPS, runs)
            self.returns("?", read_runs, RULES, CODE, GAPS, [*runs, (tick, "s", 8)])

    def test_a_hundred_runs(self):
        runs = [(8 * at, "s", 1) for at in range(100)]
        self.reads("e" * 100, runs)
        self.reads(" ".join("e" * 100), [(2 * tick, "s", 1) for tick, _, _ in runs])

    def test_some_runs_against_marks_one_by_one(self):
        chance = random.Random(31)
        for _ in range(1500):
            tick, runs = chance.randint(-9, 9), []
            for _ in range(chance.randint(1, 7)):
                word, times = chance.choice(["s", "l", "sl", "ls"]), chance.choice([1, 1, 1, 2, 4])
                runs.append((tick, word, times))
                tick += times * sum(4 if kind == "s" else 8 for kind in word)
                tick += chance.choice([0, 0, 1, 3, 4, 5, 11, 12])
            self.returns(plain_reading(CODE, GAPS, all_marks(RULES, runs)), read_runs, RULES, CODE, GAPS, runs)

    def test_the_sequence_of_the_keys_plays_no_part(self):
        turned = dict(reversed(CODE.items()))
        runs = [(0, "sl", 1), (20, "ls", 1), (60, "s", 5)]
        self.assertEqual(read_runs(RULES, CODE, GAPS, runs), read_runs(RULES, turned, GAPS, runs))


class ReadTest(LettersTest):
    def test_small_rules_and_records(self):
        seen = set()
        for rules, record, keyer in small_cases(1, random.Random(32), [(2, 4, 2), (2, 2, 3)]):
            gaps = (rules[2] + 2, rules[2] + 4)
            expected = plain_reading(CODE, gaps, keyer.marks)
            self.assertEqual(read(rules, CODE, gaps, record), expected, (rules, record))
            self.assertEqual(read_runs(rules, CODE, gaps, runs_of(rules, record)), expected)
            seen.update(expected)
        self.assertGreaterEqual(seen, set("etanim? "))

    def test_no_marks(self):
        self.returns("", read, RULES, CODE, GAPS, [])

    def test_a_lever_held_for_a_long_time(self):
        record = [(0, "s", True), (LONG, "s", False)]
        for by, expected in [(4, "?"), (7, "?"), (8, "?t"), (15, "?t"), (16, "? t")]:
            more = [(LONG + by, "l", True), (LONG + by, "l", False)]
            self.returns(expected, read, RULES, CODE, GAPS, record + more)
        # Four marks s, and four of each in turn.
        self.returns("h", read, RULES, CODE, GAPS, [(0, "s", True), (15, "s", False)])
        held = [(0, "s", True), (0, "l", True), (47, "s", False), (47, "l", False)]
        self.returns("0", read, RULES, CODE, GAPS, held)

    def test_more_than_a_hundred_runs(self):
        record = []
        for at in range(50):
            record += [(20 * at, "s", True), (20 * at, "s", False), (20 * at + 8, "l", True), (20 * at + 8, "l", False)]
        self.returns("et" * 50, read, RULES, CODE, GAPS, record)
        record = [(2 * tick, lever, is_down) for tick, lever, is_down in record]
        self.returns(" ".join("et" * 50), read, RULES, CODE, GAPS, record)


class ReadErrorsTest(LettersTest):
    def test_each_wrong_argument(self):
        check_errors(self, read_runs, (RULES, WRONG_RULES), (CODE, WRONG_CODE_ERRORS), (GAPS, WRONG_GAPS),
                     ([(0, "s", 1)], WRONG_LISTS))
        check_errors(self, read, (RULES, WRONG_RULES), (CODE, WRONG_CODE_ERRORS), (GAPS, WRONG_GAPS),
                     (RECORD, WRONG_RECORDS))

    def test_gaps_at_their_borders(self):
        for pause in (1, 2, 9, LONG):
            rules, runs = (2, 6, pause, 0, "none", False, "turn"), [(0, "s", 1)]
            self.returns("e", read_runs, rules, CODE, (pause + 1, pause + 2), runs)
            self.returns("e", read, rules, CODE, (pause + 1, GREAT), [(0, "s", True), (0, "s", False)])
            for gaps in [(pause, pause + 2), (pause + 1, pause + 1), (pause + 2, pause + 1), (pause - 1, GREAT)]:
                self.raises(InvalidGaps, {}, read_runs, rules, CODE, gaps, runs)
                self.raises(InvalidGaps, {}, read, rules, CODE, gaps, [])

    def test_runs_at_their_borders(self):
        for word, length in [("s", 4), ("l", 8), ("sl", 12), ("ls", 12)]:
            for times in (1, 2, LONG):
                for begin in (0, -7, LONG):
                    behind = begin + length * times
                    runs = [(begin, word, times), (behind, "s", 1)]
                    self.assertIsInstance(read_runs(RULES, CODE, GAPS, runs), str)
                    runs = [(begin, word, times), (behind - 1, "s", 1)]
                    self.raises(InvalidRuns, {"index": 1}, read_runs, RULES, CODE, GAPS, runs)


class NearLettersTest(LettersTest):
    def test_broken_against_all_pairs(self):
        for code in (CODE, FULL):
            for letter in code:
                pairs = [one + other for one, other in itertools.product(sorted(code), repeat=2)]
                expected = [pair for pair in pairs if code[pair[0]] + code[pair[1]] == code[letter]]
                self.returns(expected, broken, code, letter)
        self.returns(["ei", "ie"], broken, {"e": "s", "i": "ss", "s": "sss"}, "s")

    def test_broken_in_ascending_sequence(self):
        code = {"z": "s", "y": "ls", "b": "sl", "a": "s" + "ls", "0": "l", "x": "l" + "sl"}
        self.returns(["bz", "zy"], broken, code, "a")
        self.returns(["0b", "y0"], broken, code, "x")
        self.returns([], broken, {"e": "s"}, "e")

    def test_letters_that_the_code_lacks(self):
        wrong = STRANGE + ["", "z", "E", "et", "e ", "?", 0, ["e"], ("e",), b"e"]
        wrong = [(value, InvalidName, {}) for value in wrong]
        check_errors(self, broken, (CODE, WRONG_CODE_ERRORS), ("e", wrong))

    def test_joined_letters(self):
        for text, expected in [("te", "n"), ("et", "a"), ("e", "e"), ("ee", "i"), ("eeee", "h"), ("ii", "h"),
                               ("aaaa", "0"), ("ie", None), ("eet", None), ("aaaaa", None), ("", None),
                               ("h" + "e", "5"), ("e" * 4000, None), ("0" * 4000, None), ("0", "0")]:
            self.returns(expected, joined_letter, CODE, text)
        self.returns(None, joined_letter, {"e": "s"}, "")
        for code in (CODE, FULL):
            self.returns(None, joined_letter, code, "".join(code))
            for letter in code:
                self.returns(letter, joined_letter, code, letter)

    def test_texts_of_two_letters_against_broken(self):
        for one, other in itertools.product(CODE, repeat=2):
            letters = [letter for letter in CODE if one + other in broken(CODE, letter)]
            self.returns(letters[0] if letters else None, joined_letter, CODE, one + other)

    def test_texts_with_other_letters(self):
        wrong = STRANGE + ["z", "ez", "e e", " ", "E", "e?", "?", 0, ["e"], ("e",), {"e": "s"}, b"e", "e" * 3999 + "z"]
        wrong = [(value, InvalidText, {}) for value in wrong]
        check_errors(self, joined_letter, (CODE, WRONG_CODE_ERRORS), ("e", wrong))

    def test_next_letters(self):
        for word in ["", *WORDS[:126], "slslslsl", "slslslsls", "s" * 4000]:
            for code in (CODE, FULL):
                expected = sorted(letter for letter in code if code[letter][:len(word)] == word)
                self.returns(expected, next_letters, code, word)
        self.returns(sorted(CODE), next_letters, CODE, "")
        self.returns(["0"], next_letters, CODE, "slslslsl")

    def test_words_with_other_signs(self):
        wrong = STRANGE + ["x", "sx", "xs", "S", "s ", " ", "s l", 0, ["s"], ("s", "l"), b"s", "s" * 3999 + "e"]
        wrong = [(value, InvalidText, {}) for value in wrong]
        check_errors(self, next_letters, (CODE, WRONG_CODE_ERRORS), ("s", wrong))


if __name__ == "__main__":
    unittest.main()
