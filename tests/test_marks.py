"""How the keyer goes [6], and part 3: marks [13] [14]."""

import random
import unittest

from squeezedkeyer.errors import InvalidNumber
from squeezedkeyer.marks import count_begun, count_marks, idle_from, kinds_of, mark_at, nth_mark, runs_of
from tests.helpers import (
    GREAT, NO_INTEGERS, RECORD, RULES, WRONG_RECORDS, WRONG_RULES, WRONG_TICKS, check_errors, check_raises,
    check_returns,
)
from tests.plain import all_marks, plain_keyer, plain_kinds, plain_runs, small_cases, small_rules

LONG = 10 ** 29
PLAIN = (2, 6, 2, 0, "none", False, "turn")

# s is held and l behind it, then touches of both.
HELD = [(0, "s", True), (100, "s", False), (100, "l", True), (121, "l", False), (122, "s", True), (123, "s", False)]
SQUEEZED = [(0, "s", True), (1, "l", True), (50, "s", False), (51, "l", False)]


class MarksTest(unittest.TestCase):
    def raises(self, kind, told, call, *arguments):
        check_raises(self, kind, told, call, *arguments)

    def returns(self, expected, call, *arguments):
        check_returns(self, expected, call, *arguments)


class AgainstThePlainKeyerTest(MarksTest):
    def test_small_rules_and_records(self):
        for rules, record, keyer in small_cases(4, random.Random(1)):
            expected = [
                plain_runs(rules, keyer.marks), plain_kinds(keyer.marks), len(keyer.marks), keyer.steps[-1][0],
                keyer.marks,
            ]
            found = [
                runs_of(rules, record), kinds_of(rules, record), count_marks(rules, record), idle_from(rules, record),
                [nth_mark(rules, record, index) for index in range(len(keyer.marks))],
            ]
            if found != expected:
                self.fail((rules, record, found, expected))

    def test_each_tick_of_small_records(self):
        for rules, record, keyer in small_cases(1, random.Random(2), [(2, 4, 2), (3, 1, 1)]):
            for tick in range(record[0][0] - 2, keyer.now + 3):
                marks = [mark for mark in keyer.marks if mark[0] <= tick < mark[1]]
                self.assertEqual(mark_at(rules, record, tick), marks[0] if marks else None)
                begun = [mark for mark in keyer.marks if mark[0] <= tick]
                self.assertEqual(count_begun(rules, record, tick), len(begun))

    def test_marks_of_the_runs(self):
        for rules, record, keyer in small_cases(1, random.Random(3), [(1, 5, 2), (2, 2, 3)]):
            self.assertEqual(all_marks(rules, runs_of(rules, record)), keyer.marks)


class LongTest(MarksTest):
    """What a short time and a turn more show must go on for a long time."""

    def cases(self):
        """Rules, and one record with its long stretch short, a turn longer, and very many turns longer."""
        chance = random.Random(4)
        for rules in chance.sample(list(small_rules([(2, 4, 2), (3, 1, 2), (2, 2, 3)])), 200):
            periods = [rules[0] + rules[2], rules[1] + rules[2]]
            turn = periods[0] * periods[1] * sum(periods)
            short = 3 * sum(periods) + chance.randint(0, 20)
            ahead = [(0, "s", True), (2, "s", False), (2, "l", True)]
            ahead += chance.choice([[], [(chance.randint(2, 9), "s", True)]])
            gaps = sorted(chance.randint(0, 15) for _ in range(5))
            for lever in "sl":
                rows = []
                for times in (0, 1, LONG):
                    tick = short + times * turn
                    behind = [(tick, "l", False)]
                    behind += [] if ahead[-1][1] == "l" else [(tick + gaps[0], "s", False)]
                    behind += [(tick + gaps[1], "s", True), (tick + gaps[2], "s", False)]
                    behind += [(tick + gaps[3], "l", True), (tick + gaps[4], "l", False)]
                    record = ahead + behind
                    if lever == "l":
                        record = [(at, "l" if name == "s" else "s", down) for at, name, down in record]
                    rows.append(record)
                yield rules, turn, rows

    def test_begins_numbers_and_ends(self):
        for rules, turn, (short, longer, long) in self.cases():
            marks, more = plain_keyer(rules, short).marks, len(plain_keyer(rules, longer).marks)
            many = len(marks) + LONG * (more - len(marks))
            with self.subTest(rules=rules, record=long):
                self.assertEqual(count_marks(rules, long), many)
                self.assertEqual(idle_from(rules, long), plain_keyer(rules, short).now + LONG * turn)
                for call in (runs_of, kinds_of):
                    found = zip(call(rules, short), call(rules, longer), call(rules, long), strict=True)
                    for row in found:
                        self.assertEqual([len(set(items)) for items in zip(*row) if isinstance(items[0], str)], [1])
                        for one, two, last in zip(*row):
                            if not isinstance(one, str):
                                self.assertEqual(last, one + LONG * (two - one))

    def test_marks_at_both_ends(self):
        for rules, turn, (short, _, long) in self.cases():
            marks = plain_keyer(rules, short).marks
            many, by = count_marks(rules, long), LONG * turn
            with self.subTest(rules=rules, record=long):
                for index in range(4):
                    self.assertEqual(nth_mark(rules, long, index), marks[index])
                    begin, end, kind = marks[-1 - index]
                    last = (begin + by, end + by, kind)
                    self.assertEqual(nth_mark(rules, long, many - 1 - index), last)
                    for tick, expected in [(begin, last), (end - 1, last), (end, None)]:
                        self.assertEqual(mark_at(rules, long, tick + by), expected)
                    self.assertEqual(count_begun(rules, long, begin + by), many - index)
                    self.assertEqual(count_begun(rules, long, begin + by - 1), many - index - 1)

    def test_one_lever_for_a_long_time(self):
        record = [(0, "s", True), (LONG, "s", False)]
        many = LONG // 4 + 1
        self.returns([(0, "s", many)], runs_of, PLAIN, record)
        self.returns([("s", many)], kinds_of, PLAIN, record)
        self.returns(many, count_marks, PLAIN, record)
        self.returns(LONG + 4, idle_from, PLAIN, record)
        self.returns((LONG, LONG + 2, "s"), nth_mark, PLAIN, record, many - 1)
        self.returns((4 * 10 ** 20, 4 * 10 ** 20 + 2, "s"), nth_mark, PLAIN, record, 10 ** 20)
        for begin in (0, 4, 4 * 10 ** 20, LONG - 4, LONG):
            mark = (begin, begin + 2, "s")
            for tick, expected in [(begin, mark), (begin + 1, mark), (begin + 2, None), (begin + 3, None)]:
                self.returns(expected, mark_at, PLAIN, record, tick)
                self.returns(begin // 4 + 1, count_begun, PLAIN, record, tick)
            self.returns(begin // 4, count_begun, PLAIN, record, begin - 1)
        for tick in (-1, -GREAT, LONG + 4, GREAT):
            self.returns(None, mark_at, PLAIN, record, tick)
        self.returns(0, count_begun, PLAIN, record, -1)
        self.returns(many, count_begun, PLAIN, record, GREAT)

    def test_one_tick_at_the_last_decision(self):
        for by, many in [(-1, LONG // 4), (0, LONG // 4 + 1), (1, LONG // 4 + 1)]:
            self.returns(many, count_marks, PLAIN, [(0, "s", True), (LONG + by, "s", False)])

    def test_both_levers_for_a_long_time(self):
        record = [(-LONG, "l", True), (-LONG, "s", True), (12 * LONG - LONG, "l", False), (11 * LONG, "s", False)]
        # Twelve ticks are a turn of both; the next mark l begins at the clock of the releases.
        self.returns([(-LONG, "ls", LONG), (11 * LONG, "l", 1)], runs_of, PLAIN, record)
        self.returns([("ls", LONG), ("l", 1)], kinds_of, PLAIN, record)
        self.returns(2 * LONG + 1, count_marks, PLAIN, record)
        self.returns(11 * LONG + 8, idle_from, PLAIN, record)
        turn = -LONG + 12 * 10 ** 15
        for index, mark in [(0, (-LONG, -LONG + 6, "l")), (1, (-LONG + 8, -LONG + 10, "s")),
                            (2 * 10 ** 15, (turn, turn + 6, "l")), (2 * 10 ** 15 + 1, (turn + 8, turn + 10, "s")),
                            (2 * LONG - 1, (11 * LONG - 4, 11 * LONG - 2, "s")),
                            (2 * LONG, (11 * LONG, 11 * LONG + 6, "l"))]:
            self.returns(mark, nth_mark, PLAIN, record, index)
            self.returns(mark, mark_at, PLAIN, record, mark[0])
            self.returns(mark, mark_at, PLAIN, record, mark[1] - 1)
            self.returns(None, mark_at, PLAIN, record, mark[1])
            self.returns(index, count_begun, PLAIN, record, mark[0] - 1)
            self.returns(index + 1, count_begun, PLAIN, record, mark[0])
        self.raises(InvalidNumber, {}, nth_mark, PLAIN, record, 2 * LONG + 1)

    def test_both_levers_with_each_word_for_both(self):
        for both, word, times in [("turn", "sl", LONG), ("stay", "s", 3 * LONG), ("s", "s", 3 * LONG)]:
            rules = (*PLAIN[:6], both)
            record = [(0, "s", True), (1, "l", True), (12 * LONG - 1, "s", False), (12 * LONG - 1, "l", False)]
            self.returns([(0, word, times)], runs_of, rules, record)
        record = [(0, "s", True), (1, "l", True), (8 * LONG + 4, "s", False), (8 * LONG + 4, "l", False)]
        self.returns([(0, "s", 1), (4, "l", LONG + 1)], runs_of, (*PLAIN[:6], "l"), record)

    def test_great_lengths(self):
        rules = (GREAT, GREAT - 1, GREAT, GREAT, "held", True, "turn")
        self.returns([(-GREAT, "s", 1)], runs_of, rules, [(-GREAT, "s", True), (GREAT - 1, "s", False)])
        self.returns([(-GREAT, "s", 2)], runs_of, rules, [(-GREAT, "s", True), (GREAT, "s", False)])
        record = [(-GREAT, "s", True), (-1, "l", True), (-1, "l", False), (0, "s", False)]
        self.returns([(-GREAT, "s", 1)], runs_of, rules, record)
        record = [(-GREAT, "s", True), (0, "l", True), (0, "l", False), (0, "s", False)]
        self.returns([("s", 1), ("l", 1)], kinds_of, rules, record)


class WordsOfTheKeyerTest(MarksTest):
    """Single sentences of [6], on both sides of their borders."""

    def test_a_release_at_the_tick_of_the_decision_comes_behind_it(self):
        self.returns([(0, "s", 1)], runs_of, PLAIN, [(0, "s", True), (3, "s", False)])
        self.returns([(0, "s", 2)], runs_of, PLAIN, [(0, "s", True), (4, "s", False)])

    def test_a_press_at_the_tick_of_the_decision_comes_behind_it(self):
        touch = [(0, "s", True), (1, "s", False)]
        self.returns([(0, "s", 1), (4, "l", 1)], runs_of, PLAIN, touch + [(3, "l", True), (4, "l", False)])
        self.returns([(0, "s", 1), (4, "l", 1)], runs_of, PLAIN, touch + [(4, "l", True), (4, "l", False)])
        self.returns([(0, "s", 1), (5, "l", 1)], runs_of, PLAIN, touch + [(5, "l", True), (5, "l", False)])
        self.returns([(0, "s", 1)], runs_of, PLAIN, touch + [(3, "l", True), (3, "l", False)])

    def test_nothing_is_remembered_from_the_decision_on(self):
        rules = (2, 6, 2, 0, "press", True, "turn")
        record = [(0, "s", True), (0, "s", False), (1, "l", True), (1, "l", False), (2, "s", True), (2, "s", False)]
        self.returns([("s", 1), ("l", 1)], kinds_of, rules, record)
        self.returns([("s", 2)], kinds_of, rules, record[:2] + record[4:])

    def test_the_press_that_begins_a_mark_is_not_remembered(self):
        rules = (2, 6, 2, 0, "press", True, "turn")
        touch = [(0, "s", True), (0, "s", False)]
        self.returns([(0, "s", 1)], runs_of, rules, touch)
        self.returns([(0, "s", 2)], runs_of, rules, touch + touch)
        self.returns([(0, "s", 2)], runs_of, rules, touch + touch + touch)

    def test_both_levers_down_play_no_part_where_the_other_one_is_remembered(self):
        for both in ("turn", "stay", "s", "l"):
            self.returns([(0, "sl", 2), (24, "s", 1)], runs_of, (2, 6, 2, 0, "held", False, both), SQUEEZED[:2] + [
                (20, "s", False), (20, "l", False),
            ])


class NoEventsTest(MarksTest):
    def test_no_marks(self):
        for rules in small_rules([(2, 4, 2)]):
            self.returns([], runs_of, rules, [])
            self.returns([], kinds_of, rules, [])
            self.returns(0, count_marks, rules, [])
            self.returns(None, idle_from, rules, [])
            for tick in (0, -GREAT, GREAT):
                self.returns(None, mark_at, rules, [], tick)
                self.returns(0, count_begun, rules, [], tick)
            for index in (0, -1, 1, None):
                self.raises(InvalidNumber, {}, nth_mark, rules, [], index)


class ErrorsTest(MarksTest):
    def test_wrong_rules_and_records(self):
        for call in (runs_of, kinds_of, count_marks, idle_from):
            check_errors(self, call, (RULES, WRONG_RULES), (RECORD, WRONG_RECORDS))

    def test_wrong_indexes(self):
        many = count_marks(PLAIN, HELD)
        wrong = NO_INTEGERS + [-1, -many, many, many + 1, GREAT, -GREAT, 10 ** 50]
        wrong = [(value, InvalidNumber, {}) for value in wrong]
        check_errors(self, nth_mark, (PLAIN, WRONG_RULES), (HELD, WRONG_RECORDS), (0, wrong))
        self.returns((HELD[0][0], 2, "s"), nth_mark, PLAIN, HELD, 0)
        self.assertEqual(nth_mark(PLAIN, HELD, many - 1), plain_keyer(PLAIN, HELD).marks[-1])

    def test_wrong_ticks(self):
        for call in (mark_at, count_begun):
            check_errors(self, call, (PLAIN, WRONG_RULES), (HELD, WRONG_RECORDS), (0, WRONG_TICKS))
            check_errors(self, call, (PLAIN, []), ([], []), (0, WRONG_TICKS))

    def test_lists_are_new_and_arguments_stay(self):
        for record in (HELD, SQUEEZED, RECORD):
            keyer = plain_keyer(RULES, record)
            self.returns(plain_runs(RULES, keyer.marks), runs_of, RULES, record)
            self.returns(plain_kinds(keyer.marks), kinds_of, RULES, record)


if __name__ == "__main__":
    unittest.main()
