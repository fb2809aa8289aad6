"""Part 12 [30]: which numbers of the rules fit several records."""

import random
import unittest

from squeezedkeyer import records, rules as rules_module
from squeezedkeyer.errors import InvalidCases, InvalidName, TooLarge
from squeezedkeyer.fits import fitting, greatest_fit, least_fit
from squeezedkeyer.marks import kinds_of
from tests.helpers import (
    GREAT, NO_PAIRS, RULES, STRANGE, WRONG_KINDS, WRONG_RECORDS, WRONG_RULES, Clumsy, check_errors, check_raises,
    check_returns, replaced, touches,
)
from tests.plain import how_many, plain_kinds_of, some_record, some_rules, stretches_of

NAMES = ["s", "l", "pause", "deaf"]
OTHERS = {"s": "l", "l": "s", "sl": "ls", "ls": "sl"}
CASE = ([(0, "s", True), (9, "s", False)], [("s", 3)])


class CallsTest(unittest.TestCase):
    def returns(self, expected, call, *arguments):
        check_returns(self, expected, call, *arguments)

    def fits(self, expected, rules, name, cases):
        """All three calls return what belongs to these stretches."""
        self.returns(expected, fitting, rules, name, cases)
        self.returns(expected[0][0] if expected else None, least_fit, rules, name, cases)
        self.returns(expected[-1][1] if expected else None, greatest_fit, rules, name, cases)


def some_cases(chance, rules, name, many):
    """Cases that one number of this name fits, or, now and then, none."""
    place = NAMES.index(name)
    by = replaced(rules, place, chance.randint(0 if name == "deaf" else 1, 16))
    cases = []
    while len(cases) < many:
        record = some_record(by, chance.randint(1, 6), chance)
        kinds = plain_kinds_of(by if chance.random() < 0.9 else some_rules(chance, 7), record)
        if how_many(kinds) <= 100 and record[-1][0] - record[0][0] < 90:
            cases.append((record, kinds))
    return cases


def small_fits(rules, name, cases):
    """The stretches of all numbers that fit, by trying them; beyond some number all are alike."""
    last = max(record[-1][0] - record[0][0] for record, _ in cases) + sum(rules[:4]) + 9
    numbers = [number for number in range(0 if name == "deaf" else 1, last + 1)
               if all(plain_kinds_of(replaced(rules, NAMES.index(name), number), record) == kinds
                      for record, kinds in cases)]
    found = stretches_of(numbers)
    if found and found[-1][1] == last:
        found[-1] = (found[-1][0], None)
    return found


class SmallTest(CallsTest):
    def test_all_small_numbers(self):
        chance = random.Random(71)
        shapes = {}
        for name in NAMES * 60:
            rules = some_rules(chance, chance.choice([3, 7, 12]))
            cases = some_cases(chance, rules, name, chance.choice([1, 1, 1, 2, 3, 6]))
            expected = small_fits(rules, name, cases)
            self.fits(expected, rules, name, cases)
            shape = (name, len(expected), bool(expected) and expected[-1][1] is None)
            shapes[shape] = shapes.get(shape, 0) + 1
        for name in NAMES:
            for shape in [(name, 0, False), (name, 1, False), (name, 1, True)]:
                self.assertGreater(shapes.get(shape, 0), 2, shape)

    def test_several_stretches(self):
        chance = random.Random(72)
        found = dict.fromkeys(NAMES[:3], 0)
        while min(found.values()) < 4:
            rules = some_rules(chance, 6)
            name = chance.choice(NAMES[:3])
            cases = some_cases(chance, rules, name, 1)
            expected = fitting(rules, name, cases)
            if len(expected) > 1:
                self.fits(small_fits(rules, name, cases), rules, name, cases)
                found[name] += 1

    def test_the_value_of_the_name_plays_no_part(self):
        chance = random.Random(73)
        for name in NAMES * 8:
            rules = some_rules(chance, 7)
            cases = some_cases(chance, rules, name, 2)
            expected = fitting(rules, name, cases)
            for number in (1, 2, 50, GREAT):
                self.fits(expected, replaced(rules, NAMES.index(name), number), name, cases)
            for number in (0, -1, None, True, 2.0) if name != "deaf" else (-1, None, False, 2.0):
                check_raises(self, WRONG_RULES[0][1], {"index": NAMES.index(name)}, fitting,
                             replaced(rules, NAMES.index(name), number), name, cases)

    def test_levers_exchanged_plain_rules_and_shifted_records(self):
        chance = random.Random(74)
        for name in NAMES * 8:
            rules = some_rules(chance, 7)
            cases = some_cases(chance, rules, name, 2)
            expected = fitting(rules, name, cases)
            other_name = OTHERS.get(name, name)
            others = [(records.exchanged(record), [(OTHERS[word], times) for word, times in kinds])
                      for record, kinds in cases]
            self.fits(expected, rules_module.exchanged(rules), other_name, others)
            shifted = [(records.shifted(record, chance.choice([-GREAT, 5, GREAT])), kinds) for record, kinds in cases]
            self.fits(expected, rules, name, shifted)
            single = [(record, [(kind, 1) for word, times in kinds for kind in word * times])
                      for record, kinds in cases]
            if max(len(kinds) for _, kinds in single) <= 100:
                self.fits(expected, rules, name, single)
            self.fits(expected, rules, name, cases[::-1])
            self.fits(expected, rules, name, cases + cases + cases[:1])


class FitsTest(CallsTest):
    def test_stretches_without_an_end(self):
        rules, held = (2, 6, 2, 0, "press", False, "turn"), CASE[0]
        for name, kinds, expected in [
            ("s", [("s", 1)], [(8, None)]), ("s", [("s", 2)], [(3, 7)]), ("s", [("s", 3)], [(2, 2)]),
            ("s", [("s", 4)], [(1, 1)]), ("s", [("s", 5)], []), ("pause", [("s", 1)], [(8, None)]),
            ("pause", [("s", 4)], [(1, 1)]), ("l", [("s", 3)], [(1, None)]), ("l", [("s", 2)], []),
            ("deaf", [("s", 3)], [(0, None)]), ("deaf", [("s", 2)], []), ("s", [("l", 3)], []), ("s", [("sl", 1)], []),
        ]:
            self.fits(expected, rules, name, [(held, kinds)])
        # The hearing must come ahead of the touch of l, or there may be none.
        touched = [(0, "s", True), (1, "s", False), (2, "l", True), (3, "l", False)]
        self.fits([(0, 2)], rules, "deaf", [(touched, [("s", 1), ("l", 1)])])
        self.fits([(3, None)], rules, "deaf", [(touched, [("s", 1)])])
        self.fits([], rules, "deaf", [(touched, [("s", 1)]), (touched, [("s", 1), ("l", 1)])])
        self.fits([(1, None)], (2, 6, 2, 0, "none", False, "turn"), "s", [(touched[:2], [("s", 1)])])
        self.fits([(3, 7)], (2, 6, 2, 0, "none", False, "turn"), "s", [(held, [("s", 2)])])

    def test_records_without_events(self):
        for name in NAMES:
            self.fits([], RULES, name, [([], [("s", 1)])])
            self.fits([], RULES, name, [CASE, ([], [("l", 2)])])

    def test_great_numbers(self):
        chance = random.Random(75)
        by = 10 ** 27
        for name in NAMES * 6:
            rules = some_rules(chance, 7)
            cases = some_cases(chance, rules, name, 2)
            rules = rules_module.multiplied(rules, by)
            cases = [(records.multiplied(record, by), kinds) for record, kinds in cases]
            found = fitting(rules, name, cases)
            place = NAMES.index(name)
            for low, high in found:
                for number, expected in [(low - 1, False), (low, True), (low + 10 ** 32 if high is None else high, True),
                                         (low if high is None else high + 1, high is None)]:
                    if number >= (0 if name == "deaf" else 1):
                        self.assertEqual(all(kinds_of(replaced(rules, place, number), record) == kinds
                                             for record, kinds in cases), expected, (rules, name, cases, number))
        rules = (5, 7, 3, 0, "none", False, "turn")
        held = [(-GREAT, "s", True), (GREAT, "s", False)]
        for times in (1, 2, 3, 99, 100):
            # So many periods fit, but not one more.
            low, high = 2 * GREAT // times + 1, 2 * GREAT // (times - 1) if times > 1 else None
            expected = [(low - 3, None if high is None else high - 3)]
            self.fits(expected, rules, "s", [(held, [("s", times)])])

    def test_a_hundred_marks_and_one_more(self):
        rules = (2, 6, 2, 0, "press", False, "turn")
        held = [(0, "s", True), (399, "s", False)]
        self.fits([(2, 2)], rules, "s", [(held, [("s", 100)])])
        for kinds in ([("s", 101)], [("sl", 50), ("s", 1)], [("sl", 10 ** 29)]):
            for cases in ([(held, kinds)], [CASE, (held, kinds)], [([], kinds)]):
                for call in (fitting, least_fit, greatest_fit):
                    check_raises(self, TooLarge, {"limit": 100}, call, rules, "s", cases)
        # The record may send any number of marks by the rules themselves.
        self.fits([(7, 7)], rules, "s", [([(0, "s", True), (9 * 99, "s", False)], [("s", 100)])])
        self.fits([(10 ** 29 - 1, None)], rules, "s", [([(0, "s", True), (10 ** 29, "s", False)], [("s", 1)])])

    def test_many_events(self):
        chance = random.Random(76)
        period = 10 ** 27
        rules = (period - 5, 3 * period, 5, period // 3, "none", True, "s")
        ticks = sorted(40 * period + chance.randrange(9 * period) for _ in range(198))
        record = [(0, "s", True)] + [(tick, "l", index % 2 == 0) for index, tick in enumerate(ticks)]
        record += [(80 * period, "s", False)]
        cases = [(records.shifted(record, shift), kinds_of(rules, record)) for shift in range(6)]
        for name in NAMES:
            found = fitting(rules, name, cases)
            number = rules[NAMES.index(name)]
            self.assertTrue(any(low <= number and (high is None or number <= high) for low, high in found), name)
        record = touches(200)
        self.fits([(1, 8)], (2, 6, 2, 0, "none", False, "turn"), "s", [(record, [("s", 100)])])


class ErrorsTest(CallsTest):
    def test_wrong_arguments(self):
        names = [(value, InvalidName, {}) for value in [*STRANGE, 0, "", "S", "sl", "both", "remember", "pause ", ["s"]]]
        wrong = [None, True, 0, "", (), (CASE,), {}, [], [CASE] * 7, CASE, Clumsy()]
        wrong = [(value, InvalidCases, {"index": None}) for value in wrong]
        items = [*STRANGE, 0, "", list(CASE), CASE[:1], (*CASE, 0), (CASE[1], CASE[0]), (CASE[0], [("s", 0)])]
        items += [(value, CASE[1]) for value, _, _ in WRONG_RECORDS] + [(CASE[0], value) for value, _, _ in WRONG_KINDS]
        items += [(CASE[0], [pair]) for pair in NO_PAIRS]
        wrong += [([item], InvalidCases, {"index": 0}) for item in items]
        wrong += [([CASE] * 5 + [item], InvalidCases, {"index": 5}) for item in items]
        wrong += [([CASE, None, (CASE[0], [("s", 101)])], InvalidCases, {"index": 1})]
        wrong += [([(CASE[0], [("s", 101)]), None], InvalidCases, {"index": 1})]
        for call in (fitting, least_fit, greatest_fit):
            check_errors(self, call, (RULES, WRONG_RULES), ("s", names), ([CASE], wrong))


if __name__ == "__main__":
    unittest.main()
