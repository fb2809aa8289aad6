"""Part 10 [26] - [28]: what the levers can have done, by the marks that were heard."""

import itertools
import random
import unittest

from squeezedkeyer.errors import Impossible, InvalidLever, InvalidNumber, TooLarge
from squeezedkeyer.heard import fewest_down_at, fewest_for_runs, is_possible, record_for, rules_for
from squeezedkeyer.marks import runs_of
from squeezedkeyer.records import is_down, multiplied as record_multiplied
from squeezedkeyer.rules import exchanged, multiplied, plain
from squeezedkeyer.runs import tidy_runs
from squeezedkeyer.steady import slack, steadier
from tests.helpers import (
    GREAT, NO_INTEGERS, NO_LEVERS, RULES, WRONG_COUNTS, WRONG_RULES, WRONG_TICKS, check_errors, check_raises,
    check_returns,
)
from tests.plain import BOTH, REMEMBER, all_marks, plain_keyer, records_with, some_record, some_rules
from tests.test_letters import WRONG_LISTS

LONG = 10 ** 29
PLAIN = (8, 24, 8, 0, "none", False, "turn")
OTHERS = {"s": "l", "l": "s", "sl": "ls", "ls": "sl"}


def some_heard(chance, most, events, last):
    """Some rules, the runs of some record by them, and its slack."""
    while True:
        rules = some_rules(chance, most)
        record = some_record(rules, chance.randint(1, events), chance)
        if chance.random() < 0.6:
            record = steadier(rules, record)
        runs = runs_of(rules, record)
        marks = all_marks(rules, runs)
        if marks[-1][1] - marks[0][0] <= last:
            return rules, record, runs, marks


class CallsTest(unittest.TestCase):
    def returns(self, expected, call, *arguments):
        check_returns(self, expected, call, *arguments)

    def hears(self, rules, runs, least):
        """The least number of events, None if there is no such record; the record is right."""
        many = fewest_for_runs(rules, runs, least)
        self.assertIs(is_possible(rules, runs, least), many is not None)
        if many is None:
            check_raises(self, Impossible, {}, record_for, rules, runs, least)
            check_raises(self, Impossible, {}, fewest_down_at, rules, runs, least, "s", 0)
        elif many <= 200:
            record = record_for(rules, runs, least)
            self.assertEqual(len(record), many, (rules, runs, least))
            self.assertEqual(runs_of(rules, record), tidy_runs(rules, runs), (rules, runs, least))
            self.assertGreaterEqual(slack(rules, record), least, (rules, runs, least, record))
        return many


class SmallRecordsTest(CallsTest):
    def test_all_records_of_as_few_events(self):
        chance = random.Random(51)
        found = {}
        downs = {True: 0, False: 0, None: 0}
        while len(found) < 7 or min(found.values()) < 2 or sum(found.values()) < 100:
            rules, record, runs, marks = some_heard(chance, chance.choice([3, 5, 6]), 3, 22)
            for least in range(4):
                many = self.hears(rules, runs, least)
                self.assertTrue(slack(rules, record) < least or many <= len(record))
                for fewer in range(2, 5 if many is None else min(many, 5), 2):
                    steady = [other for other in records_with(rules, marks, fewer) if slack(rules, other) >= least]
                    self.assertEqual(steady, [], (rules, runs, least))
                found[(many, least)] = found.get((many, least), 0) + 1
                if many in (2, 4):
                    self.downs_are_right(rules, runs, least, downs)
        self.assertGreater(min(downs.values()), 100)
        for case in [(2, 0), (2, 1), (4, 0), (4, 1), (None, 1), (None, 2), (None, 3)]:
            self.assertIn(case, found)

    def downs_are_right(self, rules, runs, least, downs):
        marks = all_marks(rules, runs)
        steady = [record for record in records_with(rules, marks, fewest_for_runs(rules, runs, least))
                  if slack(rules, record) >= least]
        for lever in "sl":
            for tick in range(marks[0][0] - 2, marks[-1][1] + rules[2] + 3):
                states = [is_down(record, lever, tick) for record in steady]
                expected = states[0] if states == [states[0]] * len(states) else None
                found = fewest_down_at(rules, runs, least, lever, tick)
                if found is not expected:
                    self.fail((rules, runs, least, lever, tick, found, expected))
                downs[expected] += 1

    def test_six_events(self):
        chance = random.Random(52)
        tried = 0
        downs = {True: 0, False: 0, None: 0}
        while tried < 5:
            rules, _, runs, marks = some_heard(chance, 3, 6, 15)
            if self.hears(rules, runs, 0) == 6:
                self.assertEqual(records_with(rules, marks, 4), [])
                self.downs_are_right(rules, runs, 0, downs)
                tried += 1

    def test_some_records(self):
        chance = random.Random(53)
        equal = 0
        for _ in range(250):
            rules, record, runs, _ = some_heard(chance, 20, 12, 10 ** 9)
            least = slack(rules, record)
            many = self.hears(rules, runs, least)
            self.assertLessEqual(many, len(record), (rules, record))
            equal += many == len(record)
            self.assertLessEqual(self.hears(rules, runs, 0), many)
            more = self.hears(rules, runs, least + 1)
            self.assertTrue(more is None or more >= many)
        self.assertGreater(equal, 50)

    def test_marks_stand_for_themselves(self):
        chance = random.Random(54)
        for _ in range(40):
            rules, record, runs, marks = some_heard(chance, 9, 5, 100)
            single = [(begin, kind, 1) for begin, _, kind in marks]
            if len(single) > 100:
                continue
            for least in (0, slack(rules, record)):
                self.assertEqual(fewest_for_runs(rules, single, least), fewest_for_runs(rules, runs, least))
                for tick in range(marks[0][0] - 1, marks[-1][1] + 4):
                    self.assertIs(fewest_down_at(rules, single, least, "s", tick),
                                  fewest_down_at(rules, runs, least, "s", tick))


class FewestTest(CallsTest):
    def test_gaps_at_their_borders(self):
        # Touches of their own: what lies behind the decision at 16 must be twice the slack.
        for gap, least, many in [
            (8, 0, 2), (8, 1, 2), (8, 3, 2), (8, 4, None), (9, 0, 4), (9, 1, None), (10, 1, 4), (10, 2, None),
            (11, 1, 4), (11, 2, None), (12, 2, 4), (13, 2, 4), (13, 3, None), (14, 3, 4), (14, 4, None), (99, 3, 4),
        ]:
            self.returns(many, fewest_for_runs, PLAIN, [(0, "s", 1), (8 + gap, "s", 1)], least)
            self.assertEqual(self.hears(PLAIN, [(0, "s", 1), (8 + gap, "s", 1)], least), many)
        # At the decision of s only l may be down: s is released in 16 ticks, of which 3 are left on both sides.
        rules = (8, 24, 8, 0, "none", False, "s")
        for least, many in [(0, 4), (3, 4), (4, None)]:
            self.assertEqual(self.hears(rules, [(0, "l", 1), (32, "s", 1), (48, "l", 1)], least), many)

    def test_one_mark_of_each_kind_behind_each_other(self):
        chance = random.Random(55)
        for _ in range(16):
            rules = some_rules(chance, 12)
            for first, second in itertools.product("sl", repeat=2):
                period = rules[2] + (rules[0] if first == "s" else rules[1])
                for rest in range(8):
                    runs = [(5, first, 1), (5 + period + rest, second, 1)]
                    found = [self.hears(rules, runs, least) for least in range(4)]
                    self.assertEqual([many is None for many in found], sorted(many is None for many in found))
                    self.assertIn(found[0], (2, 4))
                    if rest > 0:
                        self.assertTrue(all(many in (4, None) for many in found))
                        self.assertTrue(all(many is None for many in found[rest // 2 + 1:]))

    def test_words_of_two_kinds(self):
        for word, (least, many) in itertools.product(["sl", "ls"], [(0, 4), (3, 4), (4, None)]):
            for times in (2, 3, LONG):
                self.returns(many, fewest_for_runs, PLAIN, [(0, word, times)], least)
        rules = (8, 24, 8, 0, "none", False, "stay")
        few = [self.hears(rules, [(0, "ls", times)], 0) for times in (1, 2, 3, 4)]
        step = few[3] - few[2]
        self.assertEqual(few[2] - few[1], step)
        self.assertEqual(fewest_for_runs(rules, [(0, "ls", LONG)], 0), few[3] + (LONG - 4) * step)
        check_raises(self, TooLarge, {"limit": 200}, record_for, rules, [(0, "ls", LONG)], 0)

    def test_very_many_marks(self):
        chance = random.Random(56)
        for _ in range(40):
            rules = some_rules(chance, 20)
            words = [chance.choice(list(OTHERS)) for _ in range(chance.randint(1, 3))]
            rests = [chance.choice([0, 1, 2, 9]) for _ in words]
            least = chance.randint(0, 2)
            costs = []
            for times in (30, 42, 54, 30 + 12 * LONG):
                runs, begin = [], 0
                for word, rest in zip(words, rests):
                    runs.append((begin, word, times))
                    spans = sum(rules[0 if kind == "s" else 1] + rules[2] for kind in word)
                    begin += spans * times + rest
                costs.append(self.hears(rules, runs, least))
            if costs[0] is None:
                self.assertEqual(costs, [None] * 4)
            else:
                self.assertEqual(costs[2] - costs[1], costs[1] - costs[0], (rules, words, rests, least))
                self.assertEqual(costs[3], costs[0] + LONG * (costs[1] - costs[0]), (rules, words, rests, least))

    def test_a_hundred_runs(self):
        runs = [(index * 18, "s", 1) for index in range(100)]
        self.assertEqual(self.hears(PLAIN, runs, 1), 200)
        self.assertIsNone(self.hears(PLAIN, runs, 2))
        runs = [(index * 100 * 16, "s", 99) for index in range(100)]
        self.assertEqual(self.hears(PLAIN, runs, 3), 200)
        runs = [(index * 16 * LONG, "s", LONG) for index in range(100)]
        self.assertEqual(self.hears(PLAIN, runs, 3), 2)
        period = {"s": 16, "l": 32, "sl": 48, "ls": 48}
        runs, begin = [], -GREAT
        for index in range(100):
            word = ["s", "l", "sl", "ls"][index % 4]
            runs.append((begin, word, LONG - index))
            begin += period[word] * (LONG - index) + index % 3
        for rules in (PLAIN, (8, 24, 8, 3, "held", True, "l"), (8, 24, 8, 17, "press", False, "stay")):
            self.assertGreater(fewest_for_runs(rules, runs, 0), 60)
            self.assertIsNone(fewest_for_runs(rules, runs, 1))
            fewest_down_at(rules, runs, 0, "s", runs[50][0] + LONG)

    def test_more_than_two_hundred_events(self):
        # Each pair of marks needs four events by these rules.
        rules = (8, 24, 8, 0, "none", False, "stay")
        for times in (49, 50, 51, 52):
            many = fewest_for_runs(rules, [(0, "sl", times)], 1)
            if many is not None and many > 200:
                check_raises(self, TooLarge, {"limit": 200}, record_for, rules, [(0, "sl", times)], 1)
            self.hears(rules, [(0, "sl", times)], 0)
        touches = [(index * 100, "sl", 1) for index in range(100)]
        self.assertEqual(fewest_for_runs(PLAIN, touches, 3), 400)
        check_raises(self, TooLarge, {"limit": 200}, record_for, PLAIN, touches, 3)
        self.assertEqual(len(record_for(PLAIN, touches[:50], 3)), 200)
        check_raises(self, TooLarge, {"limit": 200}, record_for, PLAIN, touches[:51], 3)
        check_raises(self, Impossible, {}, record_for, PLAIN, touches, 4)

    def test_levers_exchanged_and_numbers_multiplied(self):
        chance = random.Random(57)
        by = 10 ** 25
        for _ in range(60):
            rules, record, runs, _ = some_heard(chance, 9, 6, 10 ** 9)
            other = [(begin, OTHERS[word], times) for begin, word, times in runs]
            long = [(begin * by, word, times) for begin, word, times in runs]
            least = slack(multiplied(rules, by), record_multiplied(record, by))
            for slow in (0, 1, least, least + 1):
                many = self.hears(multiplied(rules, by), long, slow)
                self.assertTrue(slow > least or many <= len(record))
            for few in (0, 1, 2):
                self.assertEqual(fewest_for_runs(exchanged(rules), other, few), fewest_for_runs(rules, runs, few))


class DownAtTest(CallsTest):
    def test_long_runs(self):
        rules = (2, 6, 2, 0, "none", False, "turn")
        for times in (2, 10 ** 20, LONG):
            last = 4 * (times - 1)
            ticks = [-1, 0, 3, last - 1, last, last + 1, last + 2, last + 3, last + 4]
            # The release is at a tick of the last mark.
            self.assertEqual([fewest_down_at(rules, [(0, "s", times)], 0, "s", tick) for tick in ticks],
                             [False, True, True, True, None, None, None, False, False])
            self.assertEqual([fewest_down_at(rules, [(0, "s", times)], 0, "l", tick) for tick in ticks], [False] * 9)
        rules = (20, 60, 20, 0, "none", False, "turn")
        for times in (2, LONG):
            end = 120 * times
            found = [fewest_down_at(rules, [(0, "sl", times)], 5, lever, tick) for lever in "sl"
                     for tick in (0, 9, 10, 28, 29, 39, 50, end - 81, end - 71, end - 70, end - 61, end - 40,
                                  end - 22, end - 21, end - 12, end - 11, end - 1, end)]
            self.assertEqual(found, [
                True, True, True, True, True, True, True, None, None, None, None, None, None, None, None, False, False,
                False, False, False, None, None, True, True, True, True, True, None, None, None, None, None, None,
                False, False, False,
            ])

    def test_between_runs(self):
        runs = [(0, "s", 3), (50, "l", 2), (200, "s", 1)]
        for tick, expected in [(-1, (False, False)), (0, (True, False)), (11, (True, False)), (12, (True, False)),
                               (49, (False, False)), (50, (False, True)), (81, (False, True)), (113, (False, None)),
                               (114, (False, False)), (199, (False, False)), (200, (None, False)), (216, (False, False))]:
            found = tuple(fewest_down_at(PLAIN, runs, 0, lever, tick) for lever in "sl")
            if tick not in (12, 113):
                self.assertEqual(found, expected, tick)

    def test_great_ticks(self):
        for tick in (-GREAT, GREAT):
            for lever in "sl":
                self.returns(False, fewest_down_at, PLAIN, [(0, "sl", 3)], 3, lever, tick)


class RulesForTest(CallsTest):
    def expected(self, lengths, runs, least, events):
        """What rules_for returns, from all plain rules one by one."""
        found = {}
        for deaf in range(max(lengths[:2]) + lengths[2] + 2):
            for rest in itertools.product(REMEMBER, [False, True], BOTH):
                rules = (*lengths, deaf, *rest)
                many = fewest_for_runs(rules, runs, least) if plain(rules) == rules else None
                if many is not None and many <= events:
                    found.setdefault(rest, []).append(deaf)
        rows = []
        for rest, deafs in found.items():
            for deaf in deafs:
                if rows and rows[-1][:3] == rest and rows[-1][4] == deaf - 1:
                    rows[-1] = (*rest, rows[-1][3], deaf)
                else:
                    rows.append((*rest, deaf, deaf))
        return sorted(rows)

    def test_against_all_plain_rules(self):
        chance = random.Random(58)
        sizes = []
        for _ in range(10):
            rules, record, runs, _ = some_heard(chance, chance.choice([4, 9, 14]), 5, 10 ** 9)
            for least in (0, chance.choice([1, 1, slack(rules, record)])):
                events = len(record) + chance.choice([0, 0, -2, 2])
                found = rules_for(*rules[:3], runs, least, events)
                self.assertEqual(found, self.expected(rules[:3], runs, least, events), (rules, runs, least, events))
                self.returns(found, rules_for, *rules[:3], runs, least, events)
                sizes.append(len(found))
        self.assertGreater(len([size for size in sizes if size > 20]), 1)
        self.assertGreater(len(set(sizes)), 4)

    def test_rules_with_one_short_mark(self):
        # All that happens must happen in the long marks, several events in one place.
        sizes = []
        for lengths, words in [((11, 1, 1), ["sl", "slss"]), ((1, 8, 2), ["ls", "lsl"]), ((15, 1, 1), ["sl"])]:
            for word in words:
                runs, begin = [], 0
                for kind in word:
                    runs.append((begin, kind, 1))
                    begin += lengths["sl".index(kind)] + lengths[2]
                found = rules_for(*lengths, runs, 1, 8)
                self.assertEqual(found, self.expected(lengths, runs, 1, 8), (lengths, word))
                sizes.append(len(found))
        self.assertGreater(min(sizes), 0)

    def test_rows(self):
        found = rules_for(2, 6, 2, [(0, "s", 1), (4, "l", 1)], 0, 4)
        self.assertEqual(found, sorted(found))
        for remember, again, both, low, high in found:
            for deaf in (low, high):
                self.assertEqual(plain((2, 6, 2, deaf, remember, again, both)), (2, 6, 2, deaf, remember, again, both))
        # One event less than all need; an odd number is as good as the even one below it.
        self.returns([], rules_for, 2, 6, 2, [(0, "s", 1), (4, "l", 1)], 0, 3)
        self.returns(found, rules_for, 2, 6, 2, [(0, "s", 1), (4, "l", 1)], 0, 5)
        for events in (0, 1):
            self.returns([], rules_for, 2, 6, 2, [(0, "s", 1)], 0, events)
        # A single touch is sent by all plain rules.
        rows = rules_for(2, 6, 2, [(0, "s", 1)], 0, 2)
        self.assertEqual(sum(high - low + 1 for *_, low, high in rows), 4 + 8 * 4 + 2 * 8 * 4 + 2 * (4 + 4 * 2))
        self.assertEqual(len([row for row in rows if row[:2] == ("none", False)]), 4)

    def test_great_numbers(self):
        by = 10 ** 20
        chance = random.Random(59)
        for _ in range(10):
            rules, record, runs, _ = some_heard(chance, 7, 4, 10 ** 9)
            runs = [(begin * by, word, times) for begin, word, times in runs]
            s, l, pause = (number * by for number in rules[:3])
            for least in (0, by // 2, by):
                for remember, again, both, low, high in rules_for(s, l, pause, runs, least, 4):
                    for deaf, expected in [(low - 1, False), (low, True), (high, True), (high + 1, False)]:
                        other = (s, l, pause, deaf, remember, again, both)
                        if deaf >= 0 and plain(other) == other:
                            many = fewest_for_runs(other, runs, least)
                            self.assertIs(many is not None and many <= 4, expected, (other, runs, least))

    def test_the_greatest_arguments(self):
        s, l, pause = LONG, 3 * LONG + 17, LONG // 10
        runs, begin = [], -GREAT
        for index in range(12):
            word = ["s", "l", "sl", "ls"][index % 4]
            runs.append((begin, word, LONG - index))
            begin += (LONG - index) * sum({"s": s, "l": l}[kind] + pause for kind in word) + index % 3 * LONG // 100
        for least in (0, 1, LONG // 1000):
            rows = rules_for(s, l, pause, runs, least, GREAT)
            self.assertGreater(len(rows), 0)
        self.assertEqual(rules_for(s, l, pause, runs, GREAT, GREAT), [])


class ErrorsTest(CallsTest):
    def test_wrong_arguments(self):
        rules = (2, 6, 2, 0, "none", False, "turn")
        right = [(0, "s", 1)]
        columns = [(rules, WRONG_RULES), (right, WRONG_LISTS), (0, WRONG_COUNTS)]
        for call in (is_possible, fewest_for_runs, record_for):
            check_errors(self, call, *columns)
        wrong = [(value, InvalidLever, {}) for value in NO_LEVERS]
        check_errors(self, fewest_down_at, *columns, ("s", wrong), (0, WRONG_TICKS))

    def test_impossible_comes_last(self):
        runs = [(0, "s", 1), (17, "s", 1)]
        for call in (record_for, fewest_down_at):
            behind = ("l", 7) if call == fewest_down_at else ()
            check_raises(self, Impossible, {}, call, PLAIN, runs, 1, *behind)
        check_raises(self, InvalidLever, {}, fewest_down_at, PLAIN, runs, 1, "x", 7)

    def test_wrong_arguments_of_rules_for(self):
        numbers = [(value, InvalidNumber, {}) for value in [*NO_INTEGERS, 0, -1, -GREAT]]
        check_errors(self, rules_for, (2, numbers), (6, numbers), (2, numbers), ([(0, "s", 1)], WRONG_LISTS),
                     (0, WRONG_COUNTS), (2, WRONG_COUNTS))


if __name__ == "__main__":
    unittest.main()
