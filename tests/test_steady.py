"""Part 8 [23], [24]: how far off events may be, by the words of [8]."""

import random
import unittest

from squeezedkeyer import records, rules as rules_module
from squeezedkeyer.steady import shows_upset, slack, steadier, upset
from tests.helpers import (
    GREAT, RECORD, RULES, STRANGE, WRONG_RECORDS, WRONG_RULES, Clumsy, check_errors, check_returns, replaced,
)
from tests.plain import all_moved, by_ticks, keeps_words, plain_words, some_moved, some_record, some_rules

LONG = 10 ** 29


def some_steady_case(chance, most):
    """Some rules and a record of up to four events, often with room around its events."""
    while True:
        rules = some_rules(chance, most)
        record = some_record(rules, chance.choice([2, 3, 4]), chance)
        if chance.random() < 0.5:
            record = steadier(rules, record)
        if len(record) <= 4:
            return rules, record


def is_off(record, value, most):
    return all(abs(one[0] - other[0]) <= most and one[1:] == other[1:] for one, other in zip(record, value))


class CallsTest(unittest.TestCase):
    def returns(self, expected, call, *arguments):
        check_returns(self, expected, call, *arguments)


class SlackTest(CallsTest):
    def test_own_words_for_all_moves(self):
        chance = random.Random(23)
        found = []
        while len(found) < 220:
            rules, record = some_steady_case(chance, chance.choice([5, 7, 20]))
            least = slack(rules, record)
            if least > (1 if len(record) == 4 else 6):
                continue
            words = plain_words(rules, record)
            for moved in all_moved(record, least):
                if not keeps_words(rules, words, moved):
                    self.fail((rules, record, least, moved))
            if all(keeps_words(rules, words, moved) for moved in all_moved(record, least + 1)):
                self.fail((rules, record, least))
            found.append((len(record), least))
        for case in [(2, 0), (2, 1), (2, 2), (2, 3), (4, 0), (4, 1)]:
            self.assertIn(case, found)

    def test_greater_slacks_for_many_moves(self):
        chance = random.Random(24)
        found = []
        for _ in range(150):
            rules, record = some_steady_case(chance, 40)
            least = slack(rules, record)
            words = plain_words(rules, record)
            for _ in range(20):
                self.assertTrue(keeps_words(rules, words, some_moved(record, least, chance)), (rules, record))
            self.assertFalse(keeps_words(rules, words, upset(rules, record)))
            found.append(least)
        self.assertGreater(len([least for least in found if least > 2]), 20)

    def test_each_kind_of_border(self):
        for last, least in [(80, 0), (79, 0), (78, 0), (77, 1), (81, 0), (82, 1), (1, 0), (4, 2), (5, 2), (6, 3)]:
            self.returns(least, slack, (20, 60, 20, 0, "none", False, "turn"), [(0, "s", True), (last, "s", False)])
        for begin, least in [(40, 0), (41, 0), (42, 1), (45, 2), (46, 3), (99, 3)]:
            record = [(0, "s", True), (6, "s", False), (begin, "s", True), (begin + 6, "s", False)]
            self.returns(least, slack, (20, 60, 20, 0, "none", False, "turn"), record)
        for second, least in [(6, 0), (7, 0), (8, 1), (12, 3), (30, 3), (33, 3), (36, 1)]:
            record = [(0, "s", True), (6, "s", False), (second, "l", True), (39, "l", False)]
            self.assertEqual(slack((20, 60, 20, 0, "none", False, "turn"), record), 0)
            record = [(0, "s", True), (6, "s", False), (second, "l", True), (60, "l", False)]
            self.returns(min(least, (39 - second) // 2), slack, (20, 60, 20, 0, "none", False, "turn"), record)

    def test_hearings_are_borders_too(self):
        record = [(0, "s", True), (10, "s", False)]
        for deaf, least in [(0, 5), (1, 4), (9, 0), (10, 0), (11, 0), (12, 0), (13, 1), (15, 2), (39, 5), (40, 5)]:
            for rest in [("press", False, "turn"), ("none", True, "s"), ("held", True, "turn")]:
                self.returns(least, slack, (20, 60, 20, deaf, *rest), record)
            self.returns(5, slack, (20, 60, 20, deaf, "none", False, "turn"), record)

    def test_levers_held_for_a_long_time(self):
        for over, least in [(0, 0), (1, 0), (2, 1), (3, 1), (7, 3), (8, 3), (9, 3), (10, 2), (14, 0), (15, 0)]:
            record = [(-5, "s", True), (-5 + 16 * LONG + over, "s", False)]
            self.returns(least, slack, (8, 24, 8, 0, "none", False, "turn"), record)
        found = []
        for over in range(48):
            record = [(0, "s", True), (2, "l", True), (96 + over, "s", False), (98 + over, "l", False)]
            long = record[:2] + [(tick + 48 * LONG, *rest) for tick, *rest in record[2:]]
            rules = (8, 24, 8, 5, "held", True, "turn")
            least = slack(rules, record)
            self.returns(least, slack, rules, long)
            words = plain_words(rules, record)
            self.assertEqual([all(keeps_words(rules, words, moved) for moved in all_moved(record, by))
                              for by in (least, least + 1)], [True, False])
            self.assertTrue(shows_upset(rules, long, upset(rules, long)))
            found.append(least)
        self.assertEqual(sorted(set(found)), [0, 1])

    def test_great_numbers(self):
        chance = random.Random(25)
        by = 10 ** 27
        for _ in range(60):
            rules, record = some_steady_case(chance, 9)
            rules = rules_module.multiplied(rules, by)
            record = records.shifted(records.multiplied(record, by), chance.choice([-GREAT, 0, GREAT]))
            least = slack(rules, record)
            for _ in range(5):
                self.assertFalse(shows_upset(rules, record, some_moved(record, least, chance)))
            moved = upset(rules, record)
            self.assertTrue(shows_upset(rules, record, moved))
            self.assertTrue(is_off(record, moved, least + 1))
            # A period is a border from one tick less on, times or not.
            small = slack(rules_module.multiplied(rules, 2), records.multiplied(record, 2))
            self.assertIn(small, [2 * least, 2 * least + 1])

    def test_two_hundred_events(self):
        rules = (20, 20, 20, 0, "none", False, "turn")
        record = [(index // 2 * 60 + index % 2 * 10, "s", index % 2 == 0) for index in range(200)]
        self.returns(5, slack, rules, record)
        self.assertEqual(slack(rules, steadier(rules, record)), 9)
        self.assertTrue(shows_upset(rules, record, upset(rules, record)))
        # All in one mark: between 200 events and the decision lie 200 times twice the slack, and one tick.
        for decision, least in [(401, 1), (400, 0), (4001, 10)]:
            record = [(0, "s", True), (1, "s", False)] + [(2, "l", index % 2 == 0) for index in range(198)]
            rules = (decision - 1, 1, 1, 0, "none", False, "turn")
            self.assertEqual(slack(rules, record), 0)
            self.assertEqual(slack(rules, steadier(rules, record)), least)

    def test_no_events(self):
        self.returns(None, slack, RULES, [])
        self.returns([], steadier, RULES, [])
        self.returns(None, upset, RULES, [])
        for value in [[], None, [(0, "s", True)]]:
            self.returns(False, shows_upset, RULES, [], value)


class SteadierTest(CallsTest):
    def test_no_record_that_is_found_is_steadier(self):
        chance = random.Random(26)
        grown = 0
        for _ in range(150):
            rules = some_rules(chance, 12)
            record = some_record(rules, chance.randint(1, 8), chance)
            words = plain_words(rules, record)
            found = steadier(rules, record)
            greatest = slack(rules, found)
            self.assertTrue(keeps_words(rules, words, found), (rules, record, found))
            self.assertEqual(found, by_ticks(found))
            grown += greatest > slack(rules, record)
            for _ in range(25):
                moved = by_ticks(some_moved(chance.choice([record, found]), chance.randint(1, 9), chance))
                if keeps_words(rules, words, moved):
                    self.assertLessEqual(slack(rules, moved), greatest, (rules, record, moved))
        self.assertGreater(grown, 40)

    def test_against_all_ticks(self):
        rules = (4, 9, 3, 3, "press", True, "turn")
        for record in [[(0, "s", True), (9, "s", False)], [(0, "s", True), (3, "s", False)],
                       [(0, "l", True), (5, "l", False), (5, "s", True), (13, "s", False)],
                       [(0, "l", True), (1, "l", False), (12, "l", True), (12, "l", False)]]:
            words = plain_words(rules, record)
            greatest = slack(rules, steadier(rules, record))
            found = [slack(rules, moved) for moved in
                     ([record[0], *behind] for behind in all_moved(record[1:], 8)) if keeps_words(rules, words, moved)
                     and moved == by_ticks(moved)]
            self.assertEqual(greatest, max(found), record)

    def test_long_holds(self):
        rules = (8, 24, 8, 0, "none", False, "turn")
        record = [(7, "s", True), (7 + 16 * LONG, "s", False)]
        found = steadier(rules, record)
        self.assertEqual(slack(rules, found), 3)
        self.assertTrue(6 <= found[1][0] - found[0][0] - 16 * LONG <= 9)


class UpsetTest(CallsTest):
    def test_what_upset_returns_is_shown(self):
        chance = random.Random(27)
        for _ in range(400):
            rules = some_rules(chance, 14)
            record = some_record(rules, chance.randint(1, 9), chance)
            if chance.random() < 0.5:
                record = steadier(rules, record)
            least = slack(rules, record)
            found = upset(rules, record)
            self.assertTrue(is_off(record, found, least + 1) and len(found) == len(record))
            self.assertFalse(keeps_words(rules, plain_words(rules, record), found), (rules, record, found))
            self.returns(True, shows_upset, rules, record, found)

    def test_lists_are_judged_by_their_words(self):
        chance = random.Random(28)
        judged = {True: 0, False: 0}
        for _ in range(300):
            rules, record = some_steady_case(chance, 9)
            words, most = plain_words(rules, record), slack(rules, record) + 1
            for by in (most - 1, most, most, most + 1):
                moved = some_moved(record, by, chance)
                expected = is_off(record, moved, most) and not keeps_words(rules, words, moved)
                judged[expected] += 1
                self.returns(expected, shows_upset, rules, record, moved)
        self.assertGreater(min(judged.values()), 200)

    def test_a_tick_more_or_less(self):
        rules, record = (8, 24, 8, 0, "none", False, "turn"), [(0, "s", True), (12, "s", False)]
        for value, expected in [
            ([(-2, "s", True), (14, "s", False)], True), ([(-1, "s", True), (14, "s", False)], False),
            ([(-2, "s", True), (13, "s", False)], False), ([(-3, "s", True), (14, "s", False)], False),
            ([(-2, "s", True), (15, "s", False)], False), ([(2, "s", True), (10, "s", False)], False),
        ]:
            self.returns(expected, shows_upset, rules, record, value)

    def test_other_sequences(self):
        rules = (20, 20, 20, 0, "none", False, "turn")
        record = [(0, "s", True), (4, "l", True), (5, "s", False), (9, "l", False)]
        # The slack is 0, so each event may be one tick off.
        for value, expected in [
            ([(0, "s", True), (5, "l", True), (4, "s", False), (9, "l", False)], True),
            ([(0, "s", True), (4, "l", True), (4, "s", False), (9, "l", False)], False),
            ([(0, "s", True), (5, "l", True), (5, "s", False), (9, "l", False)], False),
            ([(0, "s", True), (5, "s", False), (4, "l", True), (9, "l", False)], False),
            (record[:3], False), (record + record[:1], False), (record[::-1], False),
            (record, False), (tuple(record), False), ([list(event) for event in record], False),
        ]:
            self.returns(expected, shows_upset, rules, record, value)
        # A press ahead of its own release is no record, whatever comes of it.
        self.returns(True, shows_upset, rules, [(0, "s", True), (0, "s", False)], [(1, "s", True), (0, "s", False)])
        self.returns(False, shows_upset, rules, [(0, "s", True), (0, "s", False)], [(1, "s", True), (1, "s", False)])

    def test_presses_of_one_lever_in_other_places(self):
        # All events are so near that each may take the place of another one of its kind.
        rules = (20, 20, 20, 0, "none", False, "turn")
        record = [(0, "s", True), (0, "s", False), (1, "s", True), (1, "s", False)]
        moved = [(1, "s", True), (1, "s", False), (0, "s", True), (0, "s", False)]
        self.assertTrue(keeps_words(rules, plain_words(rules, record), moved))
        self.returns(False, shows_upset, rules, record, moved)
        self.returns(True, shows_upset, rules, record, [(1, "s", True), *record[1:]])

    def test_values_of_other_kinds(self):
        rules, record = (8, 24, 8, 0, "none", False, "turn"), [(0, "s", True), (12, "s", False)]
        right = [(-2, "s", True), (14, "s", False)]
        self.returns(True, shows_upset, rules, record, right)
        wrong = [*STRANGE, 0, "", "s", [right], [None, None], [right[0], None]]
        for index in (0, 1):
            for place in (0, 1, 2):
                for value in [*STRANGE, "", "l", 1, 0, 14.0, -2.0]:
                    item = replaced(right[index], place, value)
                    if repr(item) != repr(right[index]):
                        wrong.append(replaced(right, index, item))
            wrong += [replaced(right, index, item) for item in (right[index][:2], (*right[index], 0), Clumsy())]
        for value in wrong:
            with self.subTest(value=value):
                self.assertIs(shows_upset(rules, record, value), False)
        # True and False would be the ticks 1 and 0.
        record = [(1, "s", True), (1, "s", False)]
        self.returns(True, shows_upset, rules, record, [(1, "s", True), (0, "s", False)])
        self.assertIs(shows_upset(rules, record, [(True, "s", True), (0, "s", False)]), False)
        self.assertIs(shows_upset(rules, record, [(1, "s", True), (False, "s", False)]), False)


class ErrorsTest(CallsTest):
    def test_wrong_rules_and_records(self):
        for call in (slack, steadier, upset):
            check_errors(self, call, (RULES, WRONG_RULES), (RECORD, WRONG_RECORDS))
        for value in (RECORD, None, []):
            def shows(rules, record, value=value):
                return shows_upset(rules, record, value)
            check_errors(self, shows, (RULES, WRONG_RULES), (RECORD, WRONG_RECORDS))


if __name__ == "__main__":
    unittest.main()
