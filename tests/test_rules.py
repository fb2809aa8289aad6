"""Rules [5], plain rules [9] and part 1 [10]."""

import itertools
import unittest

from squeezedkeyer.errors import InvalidLever, InvalidNumber, InvalidRules
from squeezedkeyer.rules import are_alike, exchanged, is_rules, multiplied, period, plain
from tests.helpers import (
    GREAT, NO_INTEGERS, NO_LEVERS, NO_RULES, RULES, STRANGE, Clumsy, check_raises, check_returns, replaced,
)

REMEMBER = ["none", "press", "held"]
BOTH = ["turn", "stay", "s", "l"]

NO_LENGTHS = NO_INTEGERS + [0, -1, -GREAT]
NO_WORDS = STRANGE + [0, 1, "", "Held", "hel", "heldd", " held", "hold", "no", "yes", ["held"], ("held",)]
WRONG_ITEMS = [
    NO_LENGTHS,
    NO_LENGTHS,
    NO_LENGTHS,
    NO_INTEGERS + [-1, -GREAT],
    NO_WORDS + ["turn", "s"],
    [None, 0, 1, 1.0, "", "yes", "True", [], (), [True], Clumsy()],
    NO_WORDS + ["none", "held", "S", "sl", "ss", "turns"],
]


class RulesTest(unittest.TestCase):
    def raises(self, kind, told, call, *arguments):
        check_raises(self, kind, told, call, *arguments)

    def returns(self, expected, call, *arguments):
        check_returns(self, expected, call, *arguments)


class IsRulesTest(RulesTest):
    def test_right_values(self):
        for remember, again, both in itertools.product(REMEMBER, [True, False], BOTH):
            for numbers in [(1, 1, 1, 0), (2, 6, 2, 0), (6, 2, 1, 5), (5, 5, 5, 100), (GREAT, GREAT, GREAT, GREAT)]:
                self.returns(True, is_rules, (*numbers, remember, again, both))

    def test_each_item_wrong_by_itself(self):
        for index, wrong in enumerate(WRONG_ITEMS):
            for item in wrong:
                with self.subTest(index=index, item=item):
                    value = replaced(RULES, index, item)
                    before = repr(value)
                    self.assertIs(is_rules(value), False)
                    self.assertEqual(repr(value), before)
                    self.raises(InvalidRules, {"index": index}, plain, value)

    def test_the_first_of_several_wrong_items_is_told(self):
        for one, other in itertools.combinations(range(7), 2):
            value = replaced(replaced(RULES, one, None), other, None)
            self.returns(False, is_rules, value)
            self.raises(InvalidRules, {"index": one}, plain, value)
        self.returns(False, is_rules, (None,) * 7)
        self.raises(InvalidRules, {"index": 0}, plain, (None,) * 7)

    def test_values_of_other_forms(self):
        for value in NO_RULES:
            with self.subTest(value=value):
                before = repr(value)
                self.assertIs(is_rules(value), False)
                self.assertEqual(repr(value), before)


class FirstErrorTest(RulesTest):
    def test_wrong_rules_come_first(self):
        wrong = [(value, None) for value in NO_RULES]
        wrong += [(replaced(RULES, index, None), index) for index in range(7)]
        for value, index in wrong:
            told = {"index": index}
            self.raises(InvalidRules, told, plain, value)
            self.raises(InvalidRules, told, exchanged, value)
            for right_or_wrong in ["s", "x"]:
                self.raises(InvalidRules, told, period, value, right_or_wrong)
            for right_or_wrong in [1, 0]:
                self.raises(InvalidRules, told, multiplied, value, right_or_wrong)
            self.raises(InvalidRules, told, are_alike, value, RULES)
            self.raises(InvalidRules, told, are_alike, RULES, value)

    def test_the_first_of_two_wrong_rules_is_told(self):
        self.raises(InvalidRules, {"index": 6}, are_alike, replaced(RULES, 6, 0), None)
        self.raises(InvalidRules, {"index": None}, are_alike, None, replaced(RULES, 6, 0))
        self.raises(InvalidRules, {"index": 5}, are_alike, replaced(RULES, 5, 0), replaced(RULES, 2, 0))

    def test_wrong_kinds(self):
        for value in NO_LEVERS:
            self.raises(InvalidLever, {}, period, RULES, value)

    def test_wrong_factors(self):
        for value in NO_INTEGERS + [0, -1, -GREAT]:
            self.raises(InvalidNumber, {}, multiplied, RULES, value)


class PeriodTest(RulesTest):
    def test_length_and_pause(self):
        self.returns(4, period, RULES, "s")
        self.returns(8, period, RULES, "l")
        self.returns(107, period, (100, 3, 7, 0, "none", False, "turn"), "s")
        self.returns(10, period, (100, 3, 7, 0, "none", False, "turn"), "l")
        self.returns(2 * GREAT, period, (GREAT, 1, GREAT, 0, "none", False, "turn"), "s")


class ExchangedTest(RulesTest):
    def test_lengths_and_last_item(self):
        for both, other in [("turn", "turn"), ("stay", "stay"), ("s", "l"), ("l", "s")]:
            rules = (2, 6, 3, 5, "press", True, both)
            expected = (6, 2, 3, 5, "press", True, other)
            self.returns(expected, exchanged, rules)
            self.returns(rules, exchanged, expected)


class MultipliedTest(RulesTest):
    def test_all_four_numbers(self):
        self.returns((14, 42, 21, 35, "press", False, "stay"), multiplied, (2, 6, 3, 5, "press", False, "stay"), 7)
        self.returns((2, 6, 3, 0, "none", True, "s"), multiplied, (2, 6, 3, 0, "none", True, "s"), 1)
        self.returns(RULES, multiplied, RULES, 1)

    def test_great_factors(self):
        expected = (2 * GREAT, 6 * GREAT, 2 * GREAT, 3 * GREAT, "held", True, "l")
        self.returns(expected, multiplied, RULES, GREAT)
        self.returns(True, is_rules, multiplied(expected, GREAT))


# For each word for both: the word that the plain rules have, with "held" and a
# hearing in the longer marks only.
LONGER_L = {"turn": "turn", "stay": "stay", "s": "stay", "l": "turn"}
LONGER_S = {"turn": "turn", "stay": "stay", "s": "turn", "l": "stay"}

# Lengths and pause, the lesser and the greater period, and such words.
LENGTHS = [
    ((2, 6, 2), 4, 8, LONGER_L),
    ((6, 2, 2), 4, 8, LONGER_S),
    ((1, 2, 1), 2, 3, LONGER_L),
    ((2, 1, 1), 2, 3, LONGER_S),
    ((9, 4, 30), 34, 39, LONGER_S),
    ((4, 4, 2), 6, 6, None),
    ((1, 1, 1), 2, 2, None),
]


class PlainTest(RulesTest):
    def test_none_without_again(self):
        for lengths, lesser, greater, _ in LENGTHS:
            for deaf in [0, 1, lesser - 1, lesser, greater - 1, greater, greater + 1, 1000]:
                for both in BOTH:
                    expected = (*lengths, 0, "none", False, both)
                    self.returns(expected, plain, (*lengths, deaf, "none", False, both))

    def test_deaf_at_or_behind_the_greater_period(self):
        for lengths, _, greater, _ in LENGTHS:
            for deaf in [greater, greater + 1, 10 * greater, GREAT]:
                for remember, again, both in itertools.product(REMEMBER, [True, False], BOTH):
                    expected = (*lengths, 0, "none", False, both)
                    self.returns(expected, plain, (*lengths, deaf, remember, again, both))

    def test_held_with_deaf_ahead_of_the_lesser_period(self):
        for lengths, lesser, _, _ in LENGTHS:
            for deaf in [0, 1, lesser - 1]:
                for again, both in itertools.product([True, False], BOTH):
                    expected = (*lengths, deaf, "held", again, "turn")
                    self.returns(expected, plain, (*lengths, deaf, "held", again, both))

    def test_held_with_deaf_between_the_periods(self):
        for lengths, lesser, greater, words in LENGTHS:
            for deaf in sorted({lesser, greater - 1}) if words else []:
                for again, both in itertools.product([True, False], BOTH):
                    expected = (*lengths, deaf, "held", again, words[both])
                    self.returns(expected, plain, (*lengths, deaf, "held", again, both))

    def test_press_or_again_stay_as_they_are(self):
        for lengths, lesser, greater, _ in LENGTHS:
            for deaf in sorted({0, 1, lesser - 1, min(lesser, greater - 1), greater - 1}):
                for both in BOTH:
                    for remember, again in [("press", False), ("press", True), ("none", True)]:
                        rules = (*lengths, deaf, remember, again, both)
                        self.returns(rules, plain, rules)

    def test_great_numbers(self):
        rules = (GREAT, 1, GREAT, 2 * GREAT - 1, "held", True, "l")
        self.returns((GREAT, 1, GREAT, 2 * GREAT - 1, "held", True, "stay"), plain, rules)
        self.returns((GREAT, 1, GREAT, 0, "none", False, "l"), plain, replaced(rules, 3, 2 * GREAT))

    def test_plain_rules_of_plain_rules_and_of_exchanged_rules(self):
        for lengths, _, greater, _ in LENGTHS:
            for rest in itertools.product(range(greater + 2), REMEMBER, [True, False], BOTH):
                found = plain((*lengths, *rest))
                with self.subTest(found=found):
                    self.assertTrue(is_rules(found))
                    self.assertEqual(plain(found), found)
                    self.assertEqual(plain(exchanged((*lengths, *rest))), exchanged(found))


class AreAlikeTest(RulesTest):
    def test_both_plays_no_part_with_held(self):
        one, other = (2, 6, 2, 3, "held", False, "s"), (2, 6, 2, 3, "held", False, "l")
        self.returns(True, are_alike, one, other)
        self.returns(False, are_alike, replaced(one, 3, 4), replaced(other, 3, 4))
        self.returns(True, are_alike, replaced(one, 3, 4), (2, 6, 2, 4, "held", False, "stay"))
        self.returns(True, are_alike, replaced(other, 3, 7), (2, 6, 2, 7, "held", False, "turn"))

    def test_deaf_behind_both_periods_is_nothing_remembered(self):
        for remember, again in itertools.product(REMEMBER, [True, False]):
            one = (2, 6, 2, 8, remember, again, "s")
            self.returns(True, are_alike, one, (2, 6, 2, 5, "none", False, "s"))
            self.returns(False, are_alike, one, (2, 6, 2, 5, "none", False, "l"))

    def test_each_item_that_plays_a_part(self):
        rules = (3, 7, 2, 1, "press", True, "stay")
        for index, item in enumerate([4, 8, 3, 2, "held", False, "s"]):
            other = replaced(rules, index, item)
            self.returns(False, are_alike, rules, other)
            self.returns(False, are_alike, other, rules)
        self.returns(True, are_alike, rules, (3, 7, 2, 1, "press", True, "stay"))

    def test_it_is_the_equality_of_the_plain_rules(self):
        lengths = (1, 2, 1)
        rules = [(*lengths, *rest) for rest in itertools.product(range(5), REMEMBER, [True, False], BOTH)]
        for one, other in itertools.product(rules, rules):
            if are_alike(one, other) is not (plain(one) == plain(other)):
                self.fail((one, other))


if __name__ == "__main__":
    unittest.main()
