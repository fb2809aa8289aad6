"""Part 11 [29]: to where one event can be moved."""

import random
import unittest

from squeezedkeyer import records, rules as rules_module
from squeezedkeyer.errors import InvalidNumber, TooLarge
from squeezedkeyer.marks import count_marks, kinds_of
from squeezedkeyer.windows import windows, windows_for
from tests.helpers import (
    GREAT, NO_INTEGERS, RECORD, RULES, WRONG_KINDS, WRONG_RECORDS, WRONG_RULES, check_errors, check_raises,
    check_returns, touches,
)
from tests.plain import how_many, plain_kinds_of, some_record, some_rules, stretches_of

OTHERS = {"s": "l", "l": "s", "sl": "ls", "ls": "sl"}
PLAIN = (2, 6, 2, 0, "none", False, "turn")


def with_tick(record, index, tick):
    return [*record[:index], (tick, *record[index][1:]), *record[index + 1:]]


def ticks_by_kinds(rules, record, index, far):
    """For the kinds of all moves of an event, the ticks; the first and the last event are moved so far."""
    low = record[index - 1][0] if index > 0 else record[1][0] - far
    high = record[index + 1][0] if index + 1 < len(record) else record[-2][0] + far
    found = {}
    for tick in range(low, high + 1):
        found.setdefault(tuple(plain_kinds_of(rules, with_tick(record, index, tick))), []).append(tick)
    return found


class CallsTest(unittest.TestCase):
    def returns(self, expected, call, *arguments):
        check_returns(self, expected, call, *arguments)


class SmallRecordsTest(CallsTest):
    def some_case(self, chance):
        """Some rules, a record, an index, the kinds of all moves, and how many marks all farther moves exceed."""
        while True:
            rules = some_rules(chance, chance.choice([3, 6, 9]))
            record = some_record(rules, chance.randint(1, 8), chance)
            if chance.random() < 0.4:
                record = records.multiplied(record, chance.choice([2, 3]))
            index = chance.choice([0, len(record) - 1, chance.randrange(len(record))])
            most = how_many(plain_kinds_of(rules, record)) + 2
            far = (most + 2) * (max(rules[:2]) + rules[2])
            if most < 30 and far < 250 and record[-1][0] - record[0][0] < 200:
                return rules, record, index, ticks_by_kinds(rules, record, index, far), most

    def test_all_ticks(self):
        chance = random.Random(61)
        places = []
        for _ in range(260):
            rules, record, index, by_kinds, most = self.some_case(chance)
            kinds = tuple(plain_kinds_of(rules, record))
            self.returns(stretches_of(by_kinds[kinds]), windows, rules, record, index)
            for kinds, ticks in chance.sample(sorted(by_kinds.items()), min(3, len(by_kinds))):
                if how_many(kinds) <= most or 0 < index < len(record) - 1:
                    self.returns(stretches_of(ticks), windows_for, rules, record, index, list(kinds))
            for kinds in ([("s", 1)], [("l", 2)], [("sl", 2)], [("s", 1), ("l", 1)]):
                self.returns(stretches_of(by_kinds.get(tuple(kinds), [])), windows_for, rules, record, index, kinds)
            places.append((index == 0) + 2 * (index == len(record) - 1))
        self.assertTrue(all(places.count(place) > 40 for place in (0, 1, 2)))

    def test_several_windows(self):
        chance = random.Random(62)
        found = 0
        while found < 25:
            rules = some_rules(chance, 8)
            record = some_record(rules, 10, chance)
            index = chance.randrange(1, len(record) - 1)
            if record[index + 1][0] - record[index - 1][0] < 8 or how_many(plain_kinds_of(rules, record)) > 80:
                continue
            by_kinds = ticks_by_kinds(rules, record, index, 0)
            for kinds, ticks in by_kinds.items():
                if len(stretches_of(ticks)) > 1:
                    self.returns(stretches_of(ticks), windows_for, rules, record, index, list(kinds))
                    found += 1

    def test_great_numbers_and_shifted_ticks(self):
        chance = random.Random(63)
        by = 10 ** 26
        for _ in range(60):
            rules, record, index, by_kinds, _ = self.some_case(chance)
            expected = windows(rules, record, index)
            shift = chance.choice([-GREAT, GREAT, 17])
            self.returns([(low + shift, high + shift) for low, high in expected], windows, rules,
                         records.shifted(record, shift), index)
            many, long = rules_module.multiplied(rules, by), records.multiplied(record, by)
            found = windows(many, long, index)
            kinds = plain_kinds_of(rules, record)
            # Each number of a window is one of the multiplied ones, and the windows have just these multiples.
            within = [tick for ticks in by_kinds.values() for tick in ticks
                      if any(low <= tick * by <= high for low, high in found)]
            self.assertEqual(sorted(within), sorted(by_kinds[tuple(kinds)]))
            for low, high in found:
                for tick, expected_too in [(low - 1, False), (low, True), (high, True), (high + 1, False)]:
                    moved = with_tick(long, index, tick)
                    if records.is_record(moved):
                        self.assertEqual(kinds_of(many, moved) == kinds, expected_too, (many, long, index, tick))

    def test_levers_exchanged_and_plain_rules(self):
        chance = random.Random(64)
        for _ in range(60):
            rules, record, index, by_kinds, _ = self.some_case(chance)
            expected = windows(rules, record, index)
            self.returns(expected, windows, rules_module.exchanged(rules), records.exchanged(record), index)
            self.returns(expected, windows, rules_module.plain(rules), record, index)
            kinds = list(chance.choice(sorted(by_kinds)))
            if how_many(kinds) <= 100:
                expected = windows_for(rules, record, index, kinds)
                single = [(kind, 1) for word, times in kinds for kind in word * times]
                self.returns(expected, windows_for, rules_module.exchanged(rules), records.exchanged(record), index,
                             [(OTHERS[word], times) for word, times in kinds])
                if len(single) <= 100:
                    self.returns(expected, windows_for, rules_module.plain(rules), record, index, single)


class WindowsTest(CallsTest):
    def test_a_lever_held_alone(self):
        record = [(0, "s", True), (9, "s", False)]
        self.returns([(8, 11)], windows, PLAIN, record, 1)
        self.returns([(-2, 1)], windows, PLAIN, record, 0)
        for times, expected in [(1, [(0, 3)]), (2, [(4, 7)]), (100, [(396, 399)])]:
            self.returns(expected, windows_for, PLAIN, record, 1, [("s", times)])
        for times, expected in [(1, [(6, 9)]), (2, [(2, 5)]), (100, [(-390, -387)])]:
            self.returns(expected, windows_for, PLAIN, record, 0, [("s", times)])
        for kinds in ([("l", 1)], [("s", 1), ("l", 1)], [("sl", 50)], [("s", 99), ("l", 1)]):
            for index in (0, 1):
                self.returns([], windows_for, PLAIN, record, index, kinds)
        # No tick is behind the one of the release, nor ahead of the press.
        self.returns([(7, 7)], windows, PLAIN, [(7, "s", True), (7, "s", False), (7, "l", True), (7, "l", False)], 1)
        self.returns([(4, 7)], windows, PLAIN, [(7, "s", True), (7, "s", False), (7, "s", True), (7, "s", False)], 0)

    def test_neighbours_are_included(self):
        rules = (2, 6, 2, 0, "press", False, "turn")
        record = [(0, "s", True), (1, "s", False), (2, "l", True), (3, "l", False), (30, "s", True), (30, "s", False)]
        self.returns([(1, 3)], windows, rules, record, 2)
        self.returns([(2, 11)], windows, rules, record, 3)
        self.returns([(0, 2)], windows, rules, record, 1)
        self.returns([(27, 30)], windows, rules, record, 4)
        self.returns([(30, 33)], windows, rules, record, 5)

    def test_great_numbers(self):
        rules = (10 ** 29, 3 * 10 ** 29, 10 ** 28, 10 ** 27, "press", False, "turn")
        period = 11 * 10 ** 28
        record = [(-GREAT, "s", True), (-GREAT + 5, "s", False), (-GREAT + 2 * 10 ** 27, "l", True), (GREAT, "l", False)]
        # l is held over the decision in any case; it begins one more mark the earlier it is pressed from the idle keyer.
        found = windows(rules, record, 2)
        self.assertEqual((len(found), found[0][0]), (1, -GREAT + 5))
        kinds = kinds_of(rules, record)
        for tick, expected in [(found[0][1], True), (found[0][1] + 1, False)]:
            self.assertEqual(kinds_of(rules, with_tick(record, 2, tick)) == kinds, expected)
        self.returns([(10 ** 29, 10 ** 29 + period - 1)], windows, rules,
                     [(10 ** 29 - period, "s", True), (10 ** 29, "s", False)], 1)
        # Many periods of s fit into one of l, but only a hundred marks are looked for.
        rules = (1, GREAT, 1, 0, "none", False, "turn")
        record = [(0, "s", True), (150, "s", False), (GREAT, "l", True), (GREAT, "l", False)]
        self.returns([(150, 151)], windows, rules, record, 1)
        self.returns([(150, GREAT)], windows, rules, record, 2)
        self.returns([(196, 197)], windows_for, rules, record, 1, [("s", 99), ("l", 1)])

    def test_a_hundred_marks_and_one_more(self):
        for last, many in [(399, 100), (400, 101)]:
            record = [(0, "s", True), (last, "s", False)]
            self.assertEqual(count_marks(PLAIN, record), many)
            for index in (0, 1):
                if many == 100:
                    self.assertEqual(len(windows(PLAIN, record, index)), 1)
                    self.assertEqual(len(windows_for(PLAIN, record, index, [("s", 100)])), 1)
                    check_raises(self, TooLarge, {"limit": 100}, windows_for, PLAIN, record, index, [("s", 101)])
                    check_raises(self, TooLarge, {"limit": 100}, windows_for, PLAIN, record, index, [("sl", 10 ** 29)])
                    check_raises(self, TooLarge, {"limit": 100}, windows_for, PLAIN, record, index,
                                 [("sl", 50), ("s", 1)])
                    self.assertEqual(windows_for(PLAIN, record, index, [("sl", 50)]), [])
                else:
                    check_raises(self, TooLarge, {"limit": 100}, windows, PLAIN, record, index)
                    check_raises(self, TooLarge, {"limit": 100}, windows_for, PLAIN, record, index, [("s", 1)])
        record = touches(200)
        self.assertEqual(windows(PLAIN, record, 100), [(497, 500)])
        self.assertEqual(windows(PLAIN, record, 101), [(500, 503)])
        self.assertEqual(windows(PLAIN, record, 199), [(990, 993)])

    def test_two_hundred_events_in_a_long_hold(self):
        period = 10 ** 27
        chance = random.Random(65)
        for rest in [("none", True, "stay"), ("none", False, "s"), ("press", True, "stay"), ("held", False, "turn")]:
            rules = (period - 5, 3 * period, 5, period // 3, *rest)
            ticks = sorted(40 * period + chance.randrange(9 * period) for _ in range(198))
            record = [(0, "s", True)] + [(tick, "l", index % 2 == 0) for index, tick in enumerate(ticks)]
            record += [(80 * period, "s", False)]
            kinds = kinds_of(rules, record)
            self.assertLessEqual(how_many(kinds), 100)
            for index in (0, 1, 100, 199):
                found = windows(rules, record, index)
                self.assertTrue(any(low <= record[index][0] <= high for low, high in found))
                for low, high in found:
                    for tick in (low, high, (low + high) // 2):
                        self.assertEqual(kinds_of(rules, with_tick(record, index, tick)), kinds)
                    for tick in (low - 1, high + 1):
                        moved = with_tick(record, index, tick)
                        self.assertFalse(records.is_record(moved) and kinds_of(rules, moved) == kinds)


class ErrorsTest(CallsTest):
    def test_wrong_arguments(self):
        wrong = [(value, InvalidNumber, {}) for value in [*NO_INTEGERS, -1, 4, 5, GREAT]]
        columns = [(RULES, WRONG_RULES), (RECORD, WRONG_RECORDS), (0, wrong)]
        check_errors(self, windows, *columns)
        check_errors(self, windows_for, *columns, ([("s", 1)], WRONG_KINDS))
        check_raises(self, InvalidNumber, {}, windows, RULES, [], 0)

    def test_too_large_comes_last(self):
        record = [(0, "s", True), (400, "s", False)]
        for value, kind, told in WRONG_KINDS:
            check_raises(self, kind, told, windows_for, PLAIN, record, 0, value)
        check_raises(self, InvalidNumber, {}, windows, PLAIN, record, 2)


if __name__ == "__main__":
    unittest.main()
