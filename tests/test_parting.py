"""Part 9 [25]: records that part two rules."""

import itertools
import random
import unittest

from squeezedkeyer.marks import count_marks
from squeezedkeyer.parting import fewest_parting, parting_record, shows_parting
from squeezedkeyer.records import is_record
from squeezedkeyer.rules import are_alike, exchanged, multiplied, plain
from tests.helpers import (
    GREAT, NO_LISTS, RECORD, RULES, STRANGE, WRONG_RECORDS, WRONG_RULES, check_errors, check_returns, replaced, touches,
)
from tests.plain import BOTH, REMEMBER, all_records, plain_keyer, small_cases, some_record, some_rules

LONG = 10 ** 29
ONE = (2, 6, 2, 0, "none", False, "turn")


class CallsTest(unittest.TestCase):
    def returns(self, expected, call, *arguments):
        check_returns(self, expected, call, *arguments)

    def parts(self, one, other):
        """The record that parts two unlike rules; all that must hold for it holds."""
        record = parting_record(one, other)
        self.assertTrue(is_record(record), (one, other, record))
        self.assertEqual(len(record), fewest_parting(one, other))
        self.assertEqual(len(record), fewest_parting(other, one))
        self.assertTrue(shows_parting(one, other, record), (one, other, record))
        self.assertTrue(shows_parting(other, one, record))
        self.assertLessEqual(max(count_marks(one, record), count_marks(other, record)), 1000)
        return record


class PartingTest(CallsTest):
    def test_all_small_records(self):
        chance = random.Random(41)
        records = {(many, last): list(all_records(many, last)) for many, last in [(2, 12), (4, 7), (6, 4)]}
        for lengths, sizes in [((1, 2, 1), list(records)), ((2, 1, 2), [(2, 12), (4, 7)]), ((1, 1, 1), list(records))]:
            last = max(lengths[:2]) + lengths[2]
            several = [(*lengths, deaf, *rest) for deaf in range(last + 1)
                       for rest in itertools.product(REMEMBER, [False, True], BOTH)]
            several = chance.sample(several, 14)
            marks = [[plain_keyer(rules, record).marks for size in sizes for record in records[size]]
                     for rules in several]
            sizes_of = [size[0] for size in sizes for _ in records[size]]
            for (one, ones), (other, others) in itertools.combinations(list(zip(several, marks)), 2):
                unlike = [many for many, first, second in zip(sizes_of, ones, others) if first != second]
                if are_alike(one, other):
                    self.assertEqual((unlike, parting_record(one, other), fewest_parting(one, other)), ([], None, None))
                else:
                    record = self.parts(one, other)
                    self.assertNotEqual(plain_keyer(one, record).marks, plain_keyer(other, record).marks)
                    self.assertEqual(len(record), min(unlike), (one, other, record))

    def test_rules_that_differ_in_one_item(self):
        chance = random.Random(42)
        for _ in range(300):
            one = some_rules(chance, 9)
            place = chance.randint(0, 6)
            other = replaced(one, place, some_rules(chance, 9)[place])
            if plain(one) == plain(other):
                self.returns(None, parting_record, one, other)
                self.returns(None, fewest_parting, one, other)
                continue
            record = self.parts(one, other)
            self.assertNotEqual(plain_keyer(one, record).marks, plain_keyer(other, record).marks)
            self.assertEqual(len(record), 2 if place < 3 else 4)

    def test_rules_that_differ_in_several_items(self):
        chance = random.Random(43)
        for _ in range(300):
            one, other = some_rules(chance, 9), some_rules(chance, 9)
            if chance.random() < 0.7:
                other = one[:3] + other[3:]
            if are_alike(one, other):
                continue
            record = self.parts(one, other)
            self.assertNotEqual(plain_keyer(one, record).marks, plain_keyer(other, record).marks)
            self.assertEqual(len(record), 2 if one[:3] != other[:3] else 4)

    def test_no_two_events_part_rules_of_the_same_lengths(self):
        chance = random.Random(44)
        for _ in range(200):
            one = some_rules(chance, 6)
            other = one[:3] + some_rules(chance, 6)[3:]
            last = chance.randint(0, 40)
            for lever in "sl":
                record = [(0, lever, True), (last, lever, False)]
                self.assertEqual(plain_keyer(one, record).marks, plain_keyer(other, record).marks)
                self.returns(False, shows_parting, one, other, record)

    def test_great_numbers(self):
        chance = random.Random(45)
        for by in (10 ** 20, 10 ** 28):
            for _ in range(60):
                one, other = some_rules(chance, 9), some_rules(chance, 9)
                if chance.random() < 0.7:
                    other = one[:3] + other[3:]
                many = fewest_parting(one, other)
                one, other = multiplied(one, by), multiplied(other, by)
                self.assertEqual(fewest_parting(one, other), many)
                self.assertEqual(fewest_parting(exchanged(one), exchanged(other)), many)
                if many is not None:
                    self.parts(one, other)
                    self.parts(exchanged(one), exchanged(other))
        for place in range(4):
            one = (5, GREAT - 9, 7, 1, "held", True, "turn")
            self.parts(one, replaced(one, place, GREAT))
            self.parts(replaced(one, place, GREAT), replaced(one, place, 10 ** 15))
        # A lever that is held for a mark of one of these rules sends very many by the other one.
        self.parts((1, GREAT, 1, 0, "none", False, "turn"), (1, GREAT, GREAT, 0, "none", False, "turn"))
        self.parts((1, 1, 1, 0, "none", False, "turn"), (GREAT, 1, 1, 0, "none", False, "turn"))
        self.parts((1, GREAT, 1, GREAT - 3, "press", False, "turn"), (1, GREAT, 1, GREAT - 2, "press", False, "turn"))
        self.parts((1, GREAT, 1, GREAT - 3, "held", False, "turn"), (1, GREAT, 1, GREAT - 2, "held", True, "turn"))
        self.parts((1, GREAT, 1, GREAT, "held", False, "turn"), (1, GREAT, 1, GREAT, "held", False, "stay"))

    def test_alike_rules(self):
        rules = (2, 6, 2, 9, "held", True, "l")
        for one, other in [(rules, plain(rules)), (rules, rules), (plain(rules), rules),
                           ((2, 6, 2, 3, "held", False, "s"), (2, 6, 2, 3, "held", False, "stay"))]:
            self.returns(None, parting_record, one, other)
            self.returns(None, fewest_parting, one, other)
            for record in (RECORD, [], touches(200)):
                self.returns(False, shows_parting, one, other, record)


class ShowsTest(CallsTest):
    def test_against_the_plain_keyer(self):
        chance = random.Random(46)
        shown = {True: 0, False: 0}
        for one, record, keyer in small_cases(1, chance):
            other = some_rules(chance, 5)
            kept = chance.choice([(0, 1, 2), (1, 2), (0, 1), (0, 2), ()])
            other = tuple(one[at] if at in kept or at > chance.randint(2, 6) else other[at] for at in range(7))
            expected = plain_keyer(other, record).marks != keyer.marks
            self.returns(expected, shows_parting, one, other, record)
            shown[expected] += 1
        self.assertGreater(min(shown.values()), 200)

    def test_unlike_rules_can_send_alike(self):
        touch = [(0, "s", True), (1, "s", False)]
        far = touch + [(50, "s", True), (50, "s", False)]
        at_once = touch + [(4, "s", True), (4, "s", False)]
        for other, record, expected in [
            (ONE, touch, False), ((3, 6, 2, 0, "none", False, "turn"), touch, True),
            ((2, 5, 2, 0, "none", False, "turn"), touch, False), ((2, 6, 1, 0, "none", False, "turn"), touch, False),
            # Of two pauses the mark at 4 is at its decision only by the greater one.
            ((2, 6, 1, 0, "none", False, "turn"), at_once, False), ((2, 6, 3, 0, "none", False, "turn"), at_once, True),
            ((2, 6, 3, 0, "none", False, "turn"), far, False), ((2, 9, 3, 0, "none", False, "stay"), far, False),
            ((2, 6, 2, 0, "press", False, "turn"), far, False),
        ]:
            self.returns(expected, shows_parting, ONE, other, record)
            self.returns(expected, shows_parting, other, ONE, record)

    def test_very_many_marks(self):
        held = [(0, "s", True), (LONG, "s", False)]
        for place in (0, 2, 3, 4, 5, 6):
            other = replaced(ONE, place, [3, None, 3, 7, "held", True, "s"][place])
            self.returns(place in (0, 2), shows_parting, ONE, other, held)
        self.returns(False, shows_parting, ONE, (2, 7, 2, 0, "none", False, "turn"), held)
        # The same begins, but other ends; and the same marks by another pause, if there are not too many.
        self.returns(True, shows_parting, ONE, (3, 6, 1, 0, "none", False, "turn"), held)
        self.returns(True, shows_parting, (2, 6, 2, 0, "none", False, "s"), (2, 6, 2, 0, "none", False, "turn"),
                     [(0, "s", True), (1, "l", True), (LONG, "s", False), (LONG, "l", False)])
        many = touches(200)
        self.returns(False, shows_parting, ONE, (2, 6, 7, 0, "none", False, "turn"), many)
        self.returns(True, shows_parting, ONE, (2, 6, 9, 0, "none", False, "turn"), many)
        self.returns(True, shows_parting, ONE, (3, 6, 2, 0, "none", False, "turn"), many)
        # Behind as many marks as there are many, a last one is remembered or not.
        last = [(0, "s", True), (4 * LONG, "s", False), (4 * LONG + 1, "l", True), (4 * LONG + 1, "l", False)]
        self.returns(True, shows_parting, ONE, (2, 6, 2, 0, "press", False, "turn"), last)
        self.returns(False, shows_parting, ONE, (2, 6, 2, 2, "press", False, "turn"), last)
        self.returns(True, shows_parting, ONE, (2, 6, 2, 1, "press", False, "turn"), last)

    def test_values_that_are_no_records(self):
        other = (3, 6, 2, 0, "none", False, "turn")
        self.returns(True, shows_parting, ONE, other, [(0, "s", True), (0, "s", False)])
        for value in [*STRANGE, *NO_LISTS, *[value for value, _, _ in WRONG_RECORDS], touches(201), touches(202)]:
            with self.subTest(value=value):
                self.assertIs(shows_parting(ONE, other, value), False)
        self.returns(False, shows_parting, ONE, other, [])
        self.returns(False, shows_parting, ONE, other, [(0, "s", True)])

    def test_some_long_records(self):
        chance = random.Random(47)
        for _ in range(30):
            one = some_rules(chance, 5)
            other = one[:3] + some_rules(chance, 5)[3:]
            record = some_record(one, 150, chance)
            expected = plain_keyer(one, record).marks != plain_keyer(other, record).marks
            self.returns(expected, shows_parting, one, other, record)


class ErrorsTest(CallsTest):
    def test_wrong_rules(self):
        for call in (parting_record, fewest_parting):
            check_errors(self, call, (RULES, WRONG_RULES), (RULES, WRONG_RULES))
        for value in (RECORD, None):
            def shows(one, other, value=value):
                return shows_parting(one, other, value)
            check_errors(self, shows, (RULES, WRONG_RULES), (RULES, WRONG_RULES))


if __name__ == "__main__":
    unittest.main()
