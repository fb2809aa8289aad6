"""Steps [8] and part 4 [15]."""

import random
import unittest

from squeezedkeyer.errors import InvalidName, TooLarge
from squeezedkeyer.steps import count_steps, count_word, steps
from tests.helpers import (
    RECORD, RULES, STRANGE, WRONG_RECORDS, WRONG_RULES, Clumsy, check_errors, check_raises, check_returns, touches,
)
from tests.plain import STEP_WORDS, plain_keyer, small_cases, small_rules

LONG = 10 ** 29
PLAIN = (2, 6, 2, 0, "none", False, "turn")
NO_WORDS = STRANGE + [
    0, "", "s", "begin", "press", "remember", "hear s", "idle ", " idle", "Idle", "begin  s", "begin x", "release  l",
    "begins", "press s ", "end s", ["idle"], ("idle",), "bad",
]


class CallsTest(unittest.TestCase):
    def returns(self, expected, call, *arguments):
        check_returns(self, expected, call, *arguments)


class StepsTest(CallsTest):
    def test_small_rules_and_records(self):
        words = {}
        for rules, record, keyer in small_cases(4, random.Random(11)):
            if steps(rules, record) != keyer.steps or count_steps(rules, record) != len(keyer.steps):
                self.fail((rules, record, steps(rules, record), keyer.steps))
            for word in STEP_WORDS:
                many = [name for _, name in keyer.steps].count(word)
                words[word] = words.get(word, 0) + many
                self.assertEqual(count_word(rules, record, word), many, (rules, record, word))
        self.assertEqual(sorted(words), sorted(STEP_WORDS))
        self.assertGreater(min(words.values()), 500)

    def test_the_same_ticks_again_and_again(self):
        touch = [(0, "l", True), (0, "l", False)]
        for rules in small_rules([(2, 4, 2), (3, 1, 1)]):
            record = [(0, "s", True), *touch, *touch, (0, "s", False), (0, "s", True), (0, "s", False), *touch]
            self.returns(plain_keyer(rules, record).steps, steps, rules, record)

    def test_a_lever_is_remembered_once_by_each_mark(self):
        rules = (2, 6, 2, 1, "press", True, "turn")
        record = [(0, "s", True), (0, "s", False)]
        for tick in (1, 2, 3):
            record += [(tick, "l", True), (tick, "l", False), (tick, "s", True), (tick, "s", False)]
        self.assertEqual(count_word(rules, record, "remember l"), 1)
        self.assertEqual(count_word(rules, record, "remember s"), 1)
        self.assertEqual(count_word(rules, record, "press l"), 3)
        record += [(5, "s", True), (5, "s", False), (7, "l", True), (7, "l", False)]
        self.assertEqual([count_word(rules, record, word) for word in ("remember l", "remember s")], [2, 2])
        self.assertEqual([word for _, word in steps(rules, record)][-3:], ["begin s", "hear", "idle"])

    def test_remembered_also_where_it_plays_no_part(self):
        # Both levers are down with "stay", and so is the lever of the mark.
        record = [(0, "s", True), (1, "s", False), (2, "s", True), (9, "s", False)]
        self.returns([
            (0, "press s"), (0, "begin s"), (1, "release s"), (2, "press s"), (2, "remember s"), (4, "begin s"),
            (8, "begin s"), (9, "release s"), (12, "idle"),
        ], steps, (2, 6, 2, 0, "none", True, "stay"), record)

    def test_the_clock_remembers_ahead_of_the_events(self):
        record = [(0, "s", True), (1, "l", True), (3, "l", False), (3, "s", False)]
        self.returns([
            (0, "press s"), (0, "begin s"), (1, "press l"), (3, "hear"), (3, "remember l"), (3, "release l"),
            (3, "release s"), (4, "begin l"), (7, "hear"), (12, "idle"),
        ], steps, (2, 6, 2, 3, "held", False, "turn"), record)
        self.returns([
            (0, "press s"), (0, "begin s"), (1, "press l"), (3, "release l"), (3, "release s"), (4, "idle"),
        ], steps, (2, 6, 2, 4, "held", False, "turn"), record)

    def test_a_hearing_at_the_begin_is_no_step(self):
        record = [(0, "s", True), (0, "l", True), (9, "l", False), (9, "s", False)]
        self.returns([
            (0, "press s"), (0, "begin s"), (0, "press l"), (0, "remember l"), (4, "begin l"), (4, "remember s"),
            (9, "release l"), (9, "release s"), (12, "begin s"), (16, "idle"),
        ], steps, (2, 6, 2, 0, "held", False, "turn"), record)

    def test_no_events(self):
        self.returns([], steps, RULES, [])
        self.returns(0, count_steps, RULES, [])
        for word in STEP_WORDS:
            self.returns(0, count_word, RULES, [], word)

    def test_words_that_do_not_occur(self):
        record = [(0, "s", True), (9, "s", False)]
        for word, many in [("press l", 0), ("release l", 0), ("begin l", 0), ("hear", 0), ("remember s", 0),
                           ("remember l", 0), ("begin s", 3), ("idle", 1), ("press s", 1), ("release s", 1)]:
            self.returns(many, count_word, PLAIN, record, word)
        self.returns(2, count_word, PLAIN, [*record, (20, "l", True), (20, "l", False)], "idle")


class ManyStepsTest(CallsTest):
    def held(self, marks):
        """A record of as many marks s, each of four ticks, and three steps more."""
        return [(0, "s", True), (4 * marks - 1, "s", False)]

    def test_a_thousand_steps_and_one_more(self):
        self.assertEqual(len(steps(PLAIN, self.held(997))), 1000)
        self.assertEqual(steps(PLAIN, self.held(997))[-1], (4 * 997, "idle"))
        check_raises(self, TooLarge, {"limit": 1000}, steps, PLAIN, self.held(998))
        self.returns(1001, count_steps, PLAIN, self.held(998))
        check_raises(self, TooLarge, {"limit": 1000}, steps, PLAIN, self.held(LONG))

    def test_a_thousand_steps_of_many_events(self):
        rules = (2, 6, 2, 1, "press", False, "turn")
        # A touch of its own has five steps.
        record = touches(200)
        self.assertEqual(count_steps(rules, record), 500)
        self.assertEqual(steps(rules, record), plain_keyer(rules, record).steps)
        for last, many in [(1985, 1000), (1988, 1000), (1989, 1002)]:
            record = touches(198) + [(985, "s", True), (last, "s", False)]
            self.assertEqual(count_steps(rules, record), many)
            if many == 1000:
                self.assertEqual(steps(rules, record), plain_keyer(rules, record).steps)
            else:
                check_raises(self, TooLarge, {"limit": 1000}, steps, rules, record)

    def test_levers_held_for_a_long_time(self):
        chance = random.Random(12)
        for rules in chance.sample(list(small_rules([(2, 4, 2), (3, 1, 2), (2, 2, 3)])), 150):
            periods = [rules[0] + rules[2], rules[1] + rules[2]]
            turn = periods[0] * periods[1] * sum(periods)
            first, last = chance.randint(0, 9), 4 * sum(periods) + chance.randint(0, 20)
            counts = []
            for times in (0, 1, LONG):
                tick = last + times * turn
                record = [(0, "s", True), (first, "l", True), (tick, "s", False), (tick + 3, "l", False)]
                counts.append([count_word(rules, record, word) for word in STEP_WORDS])
                self.assertEqual(count_steps(rules, record), sum(counts[-1]))
                if times < LONG:
                    words = [word for _, word in plain_keyer(rules, record).steps]
                    self.assertEqual(counts[-1], [words.count(word) for word in STEP_WORDS])
            for one, two, long in zip(*counts):
                self.assertEqual(long, one + LONG * (two - one), (rules, record))


class ErrorsTest(CallsTest):
    def test_wrong_rules_and_records(self):
        for call in (steps, count_steps):
            check_errors(self, call, (RULES, WRONG_RULES), (RECORD, WRONG_RECORDS))

    def test_wrong_words(self):
        wrong = [(value, InvalidName, {}) for value in NO_WORDS + [Clumsy()]]
        check_errors(self, count_word, (RULES, WRONG_RULES), (RECORD, WRONG_RECORDS), ("idle", wrong))
        check_errors(self, count_word, (RULES, []), ([], []), ("idle", wrong))

    def test_too_many_steps_come_behind_the_arguments(self):
        long = [(0, "s", True), (LONG, "s", False)]
        check_raises(self, TooLarge, {"limit": 1000}, steps, PLAIN, long)
        for value, kind, told in WRONG_RULES:
            check_raises(self, kind, told, steps, value, long)


if __name__ == "__main__":
    unittest.main()
