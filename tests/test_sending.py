"""Part 7 [21], [22]: with how few events kinds and texts are sent."""

import itertools
import random
import unittest

from squeezedkeyer.errors import Impossible, InvalidText, TooLarge
from squeezedkeyer.letters import read
from squeezedkeyer.marks import count_marks, kinds_of
from squeezedkeyer.rules import exchanged, multiplied
from squeezedkeyer.sending import fewest_events, fewest_for_text, greatest_slack, send, send_text, trade
from squeezedkeyer.steady import slack, steadier
from tests.helpers import (
    RULES, STRANGE, WRONG_COUNTS, WRONG_KINDS, WRONG_RULES, Clumsy, check_errors, check_raises, check_returns,
)
from tests.plain import (
    all_records, by_ticks, keeps_words, plain_keyer, plain_kinds, plain_words, some_moved, some_record, some_rules,
)
from tests.test_letters import WRONG_CODE_ERRORS, WRONG_GAPS

LONG = 10 ** 29
PLAIN = (20, 60, 20, 0, "none", False, "turn")
CODE = {"e": "s", "t": "l", "a": "sl", "n": "ls", "i": "ss", "m": "ll", "s": "sss", "q": "llsl", "0": "slslllss"}


class CallsTest(unittest.TestCase):
    def returns(self, expected, call, *arguments):
        check_returns(self, expected, call, *arguments)

    def sends(self, rules, kinds, least):
        """The number of events that are sent, None if it is impossible; what is sent is right."""
        many = fewest_events(rules, kinds, least)
        if many is None:
            check_raises(self, Impossible, {}, send, rules, kinds, least)
            return None
        record = send(rules, kinds, least)
        self.assertEqual(len(record), many, (rules, kinds, least))
        self.assertEqual(kinds_of(rules, record), kinds, (rules, kinds, least))
        self.assertGreaterEqual(slack(rules, record), least, (rules, kinds, least))
        return many


def one_by_one(kinds):
    return [(kind, 1) for word, times in kinds for kind in word * times]


class SmallRecordsTest(CallsTest):
    def fewest_found(self, rules, sizes):
        """For kinds, the least number of events that all small records need, by the slack that they have."""
        found = {}
        for many, last in sizes:
            for record in all_records(many, last):
                kinds = tuple(plain_kinds(plain_keyer(rules, record).marks))
                of_kinds = found.setdefault(kinds, {})
                for least in range(slack(rules, record) + 1):
                    of_kinds[least] = min(many, of_kinds.get(least, many))
        return found

    def test_all_small_records_of_up_to_six_events(self):
        chance = random.Random(31)
        for rules, sizes in [
            ((1, 2, 1, 0, "none", False, "turn"), [(2, 9), (4, 7), (6, 5)]),
            ((1, 1, 1, 1, "press", True, "s"), [(2, 9), (4, 7), (6, 4)]),
            ((2, 1, 1, 0, "held", True, "turn"), [(2, 9), (4, 7), (6, 4)]),
            ((1, 2, 1, 2, "held", False, "stay"), [(2, 9), (4, 8), (6, 4)]),
            ((2, 7, 4, 0, "press", False, "turn"), [(2, 25), (4, 13)]),
            ((8, 5, 2, 5, "none", True, "l"), [(2, 25), (4, 13)]),
            ((9, 4, 3, 0, "held", False, "turn"), [(2, 25), (4, 14)]),
        ]:
            found = self.fewest_found(rules, sizes)
            self.assertGreater(len(found), 8)
            for kinds, of_kinds in chance.sample(sorted(found.items()), min(len(found), 40)):
                kinds = list(kinds)
                for least, many in of_kinds.items():
                    sent = self.sends(rules, kinds, least)
                    # A record that was not found may be longer, but what is sent shows that it is there.
                    self.assertLessEqual(sent, many, (rules, kinds, least))
                    self.assertEqual(fewest_events(rules, one_by_one(kinds), least), sent)
                trades = trade(rules, kinds)
                for many in range(8):
                    known = [least for least, events in of_kinds.items() if events <= many]
                    most = greatest_slack(rules, kinds, many)
                    self.assertGreaterEqual(-1 if most is None else most, max(known, default=-1), (rules, kinds, many))
                    self.assertEqual(most, max([least for events, least in trades if events <= many], default=None))
                self.assertEqual(greatest_slack(rules, one_by_one(kinds), 6), greatest_slack(rules, kinds, 6))

    def test_some_records(self):
        chance = random.Random(32)
        equal = 0
        for _ in range(150):
            rules = some_rules(chance, 12)
            record = steadier(rules, some_record(rules, chance.randint(2, 8), chance))
            kinds, least = kinds_of(rules, record), slack(rules, record)
            many = self.sends(rules, kinds, least)
            self.assertLessEqual(many, len(record), (rules, record))
            equal += many == len(record)
            table = []
            while not table or table[-1] is not None:
                table.append(self.sends(rules, kinds, len(table)))
            self.assertEqual(sorted(table[:-1]), table[:-1])
            expected = [(events, found) for found, events in enumerate(table[:-1]) if events not in table[found + 1:]]
            self.returns(expected, trade, rules, kinds)
            for events in range(len(record) + 3):
                fitting = [found for found, needed in enumerate(table[:-1]) if needed <= events]
                self.returns(fitting[-1] if fitting else None, greatest_slack, rules, kinds, events)
        self.assertGreater(equal, 30)


class FewestTest(CallsTest):
    def test_events_in_one_place(self):
        # The press of l and what goes with it lie in the 40 ticks of the first mark.
        for kinds, rules, table in [
            ([("s", 1)], PLAIN, [(0, 2), (9, 2), (10, None)]),
            ([("l", 1)], PLAIN, [(19, 2), (20, None)]),
            ([("s", 1), ("l", 1)], PLAIN, [(0, 4), (9, 4), (10, None)]),
            ([("s", 1), ("l", 1), ("s", 1)], PLAIN, [(0, 4), (9, 4), (10, None)]),
            ([("s", 1), ("l", 1)], (20, 60, 20, 0, "press", False, "turn"), [(6, 4), (7, 4), (9, 4), (10, None)]),
            ([("s", 2)], (20, 60, 20, 0, "none", True, "turn"), [(9, 2), (10, None)]),
            ([("s", 2)], (20, 60, 20, 40, "press", True, "turn"), [(9, 2), (10, None)]),
            ([("s", 2)], (20, 60, 20, 12, "press", True, "turn"), [(0, 2), (6, 2), (7, None)]),
        ]:
            for least, many in table:
                self.returns(many, fewest_events, rules, kinds, least)
        # By four events l is pressed behind the hearing of s, within ten ticks; by six each mark has its own touch,
        # and each release is ahead of the hearing, within thirty ticks.
        self.returns([(4, 2), (6, 7)], trade, (20, 60, 20, 30, "press", False, "stay"), [("s", 1), ("l", 1), ("s", 1)])
        for events, least in [(3, None), (4, 2), (5, 2), (6, 7), (7, 7)]:
            self.returns(least, greatest_slack, (20, 60, 20, 30, "press", False, "stay"),
                         [("s", 1), ("l", 1), ("s", 1)], events)

    def test_rules_that_make_squeezed_levers_alternate(self):
        for both, expected in [("turn", 4), ("stay", None), ("s", None), ("l", None)]:
            rules = (20, 60, 20, 0, "none", False, both)
            found = fewest_events(rules, [("sl", 20)], 9)
            if both == "turn":
                self.assertEqual(found, expected)
            else:
                self.assertGreater(found, 20)

    def test_many_marks(self):
        for times in (10 ** 20, LONG):
            self.returns(2, fewest_events, PLAIN, [("s", times)], 9)
            self.returns([(2, 9)], trade, PLAIN, [("s", times)])
            self.returns(4, fewest_events, PLAIN, [("sl", times)], 9)
            self.assertEqual(self.sends(PLAIN, [("sl", times)], 9), 4)
            self.assertEqual(self.sends(PLAIN, [("s", times), ("l", times), ("sl", times)], 4), 6)
            rules = (20, 60, 20, 0, "none", False, "stay")
            # Squeezed levers stay, so each mark needs events of its own.
            short = [fewest_events(rules, [("sl", many)], 4) for many in range(2, 8)]
            step = short[-1] - short[-2]
            self.assertEqual(short, list(range(short[0], short[-1] + 1, step)))
            self.returns(short[0] + (times - 2) * step, fewest_events, rules, [("sl", times)], 4)
            check_raises(self, TooLarge, {"limit": 200}, send, rules, [("sl", times)], 4)
            needed = trade(rules, [("sl", times)])[0][0]
            self.returns(None, greatest_slack, rules, [("sl", times)], needed - 1)
            self.assertGreaterEqual(greatest_slack(rules, [("sl", times)], short[0] + (times - 2) * step), 4)

    def test_long_kinds_against_short_ones(self):
        chance = random.Random(33)
        for _ in range(40):
            rules = some_rules(chance, 20)
            words = [chance.choice(["s", "l", "sl", "ls"]) for _ in range(chance.randint(1, 3))]
            least = chance.randint(0, 2)
            if fewest_events(rules, [(word, 30) for word in words], least) is None:
                continue
            # From some number of marks on each twelve more cost the same.
            costs = [fewest_events(rules, [(word, 30 + 12 * more) for word in words], least) for more in (0, 1, 2)]
            self.assertEqual(costs[2] - costs[1], costs[1] - costs[0], (rules, words, least))
            long = fewest_events(rules, [(word, 30 + 12 * LONG) for word in words], least)
            self.assertEqual(long, costs[0] + LONG * (costs[1] - costs[0]), (rules, words, least))

    def test_two_hundred_events_and_more(self):
        rules = (20, 60, 20, 0, "none", False, "stay")
        for many in range(95, 106):
            kinds = [("sl", many // 2)] + [("s", 1)] * (many % 2)
            for least in (0, 9):
                events = fewest_events(rules, kinds, least)
                if events > 200:
                    check_raises(self, TooLarge, {"limit": 200}, send, rules, kinds, least)
                else:
                    record = send(rules, kinds, least)
                    self.assertEqual((len(record), count_marks(rules, record)), (events, many))
                    self.assertGreaterEqual(slack(rules, record), least)

    def test_a_hundred_kinds(self):
        kinds = [("sl", LONG), ("s", LONG), ("l", LONG - 1), ("ls", LONG - 7)] * 25
        rules = (20, 60, 20, 7, "held", True, "s")
        found = trade(rules, kinds)
        for many, least in found:
            self.returns(many, fewest_events, rules, kinds, least)
            if many <= 200:
                record = send(rules, kinds, least)
                self.assertEqual((len(record), count_marks(rules, record)), (many, 150 * LONG - 375))
        self.assertEqual(fewest_events(rules, kinds, found[-1][1] + 1), None)

    def test_an_event_of_less_than_two(self):
        for events in (0, 1):
            self.returns(None, greatest_slack, PLAIN, [("s", 1)], events)
        self.returns(9, greatest_slack, PLAIN, [("s", 1)], 2)
        self.returns(9, greatest_slack, PLAIN, [("s", 1)], 10 ** 30)
        self.returns(None, fewest_events, PLAIN, [("s", 1)], 10 ** 30 - 1)

    def test_levers_exchanged_and_numbers_multiplied(self):
        chance = random.Random(34)
        others = {"s": "l", "l": "s", "sl": "ls", "ls": "sl"}
        for _ in range(40):
            rules = some_rules(chance, 12)
            kinds = [(chance.choice(list(others)), chance.randint(1, 5)) for _ in range(chance.randint(1, 4))]
            trades = trade(rules, kinds)
            self.assertEqual(trade(exchanged(rules), [(others[word], times) for word, times in kinds]), trades)
            many = trade(multiplied(rules, 10 ** 28), kinds)
            for events, least in trades:
                self.assertEqual(greatest_slack(multiplied(rules, 10 ** 28), kinds, events) // 10 ** 28 >= least, True)
            self.assertEqual(self.sends(multiplied(rules, 10 ** 28), kinds_of(rules, send(rules, kinds, 0)),
                                        many[0][1]), many[0][0])


class TextTest(CallsTest):
    def sends_text(self, rules, gaps, text, least, chance):
        """The number of events for a text, None if it is impossible; what is sent reads as the text, also moved."""
        many = fewest_for_text(rules, CODE, gaps, text, least)
        if many is None:
            check_raises(self, Impossible, {}, send_text, rules, CODE, gaps, text, least)
            return None
        record = send_text(rules, CODE, gaps, text, least)
        self.assertEqual(len(record), many, (rules, gaps, text, least))
        self.assertEqual(read(rules, CODE, gaps, record), text)
        words = plain_words(rules, record)
        for _ in range(6):
            moved = some_moved(record, least, chance)
            self.assertTrue(keeps_words(rules, words, moved), (rules, gaps, text, least, record, moved))
            self.assertEqual(read(rules, CODE, gaps, by_ticks(moved)), text, (rules, gaps, text, least, record, moved))
        return many

    def test_some_texts(self):
        chance = random.Random(35)
        found = {}
        for _ in range(500):
            rules = some_rules(chance, chance.choice([6, 18]))
            letter = rules[2] + chance.randint(1, 16)
            gaps = (letter, letter + chance.randint(1, 24))
            text = " ".join("".join(chance.choice(list(CODE)) for _ in range(chance.randint(1, 3)))
                            for _ in range(chance.randint(1, 3)))
            least = chance.randint(0, 3)
            many = self.sends_text(rules, gaps, text, least, chance)
            found[(many is None, least)] = found.get((many is None, least), 0) + 1
        self.assertEqual(len(found), 7)
        self.assertGreater(min(found.values()), 4)

    def test_against_some_records(self):
        chance = random.Random(36)
        tried = 0
        while tried < 150:
            rules = some_rules(chance, 9)
            letter = rules[2] + chance.randint(1, 9)
            gaps = (letter, letter + chance.randint(1, 9))
            record = some_record(rules, chance.choice([2, 4, 6]), chance)
            if chance.random() < 0.5:
                record = steadier(rules, record)
            text = read(rules, CODE, gaps, record)
            if "?" in text:
                continue
            least = slack(rules, record)
            marks = plain_keyer(rules, record).marks
            for gap in (behind[0] - ahead[1] for ahead, behind in itertools.pairwise(marks)):
                for border in gaps if gap > rules[2] else ():
                    least = min(least, (border - 1 - gap) // 2 if gap < border else (gap - border) // 2)
            self.assertLessEqual(fewest_for_text(rules, CODE, gaps, text, least), len(record), (rules, gaps, record))
            tried += 1

    def test_gaps_at_their_borders(self):
        # A letter gap has room for 4 r between its border and that of a word.
        rules = (20, 60, 20, 0, "none", False, "turn")
        for gaps, text, least, many in [
            ((60, 61), "ee", 0, 4), ((60, 61), "ee", 1, None), ((60, 64), "ee", 1, None), ((60, 65), "ee", 1, 4),
            ((60, 96), "ee", 9, None), ((60, 97), "ee", 9, 4), ((60, 61), "e e", 9, 4), ((60, 61), "e e", 10, None),
            # The marks i can be sent by one press, or with an idle keyer between, if the gap stays below 21.
            ((21, 22), "i", 0, 2), ((21, 22), "i", 9, 2), ((21, 22), "ii", 0, 4),
        ]:
            self.returns(many, fewest_for_text, rules, CODE, gaps, text, least)
        # Two presses within a letter need a gap of the pause and 4 r more, below that of a letter.
        rules = (20, 60, 20, 0, "none", False, "stay")
        for letter, least, many in [(21, 0, 4), (24, 0, 4), (24, 1, 4), (25, 1, 4)]:
            self.returns(many, fewest_for_text, rules, CODE, (letter, 200), "a", least)
        rules = (9, 3, 2, 0, "none", False, "stay")
        table = [[fewest_for_text(rules, {"x": "lslsl"}, (letter, 99), "x", least) for letter in range(3, 12)]
                 for least in (0, 1)]
        self.assertEqual(table[0], [table[0][0]] * 9)
        for least in (0, 1):
            for letter, many in zip(range(3, 12), table[least]):
                if many is not None:
                    record = send_text(rules, {"x": "lslsl"}, (letter, 99), "x", least)
                    self.assertEqual(read(rules, {"x": "lslsl"}, (letter, 99), record), "x")
                    self.assertGreaterEqual(slack(rules, record), least)
        self.assertIn(None, [fewest_for_text(rules, {"x": "lllss"}, (3, 99), "x", least) for least in range(9)])

    def test_idle_within_a_letter(self):
        # No mark has room for two events with the slack 4, but a gap of 2 + 16 has; a letter of 19 begins behind it.
        rules = (20, 20, 2, 0, "none", False, "stay")
        for letter, many in [(17, None), (18, None), (19, 4), (30, 4)]:
            self.returns(many, fewest_for_text, rules, CODE, (letter, 99), "a", 4)
        rules = (12, 12, 2, 0, "none", False, "s")
        self.assertEqual(fewest_for_text(rules, CODE, (3, 99), "n", 2), 4)
        for letter, many in [(14, None), (15, 4)]:
            self.returns(many, fewest_for_text, rules, CODE, (letter, 99), "n", 3)

    def test_letters_of_one_sign_and_of_eight(self):
        chance = random.Random(37)
        self.assertEqual(self.sends_text(PLAIN, (60, 140), "e", 9, chance), 2)
        self.assertEqual(self.sends_text(PLAIN, (60, 140), "0", 9, chance),
                         fewest_events(PLAIN, [(kind, 1) for kind in "slslllss"], 9))
        self.assertEqual(self.sends_text(PLAIN, (60, 140), "0 0e", 9, chance),
                         2 * fewest_for_text(PLAIN, CODE, (60, 140), "0", 9) + 2)

    def test_the_empty_text(self):
        for least in (0, 1, 10 ** 30 - 1):
            self.returns(0, fewest_for_text, PLAIN, CODE, (60, 140), "", least)
            self.returns([], send_text, PLAIN, CODE, (60, 140), "", least)

    def test_long_texts(self):
        self.returns(8000, fewest_for_text, PLAIN, CODE, (60, 140), "e" * 4000, 9)
        self.returns(4000, fewest_for_text, PLAIN, CODE, (60, 140), ("e " * 2000)[:-1], 9)
        self.returns(4000 * fewest_for_text(PLAIN, CODE, (60, 140), "0", 4), fewest_for_text, PLAIN, CODE, (60, 140),
                     "0" * 4000, 4)
        check_raises(self, TooLarge, {"limit": 200}, send_text, PLAIN, CODE, (60, 140), "e" * 4000, 9)
        check_raises(self, TooLarge, {"limit": 200}, send_text, PLAIN, CODE, (60, 140), "e" * 101, 9)
        self.assertEqual(len(send_text(PLAIN, CODE, (60, 140), "e" * 100, 9)), 200)
        check_raises(self, Impossible, {}, send_text, PLAIN, CODE, (60, 140), "e" * 101, 10)


class ErrorsTest(CallsTest):
    def test_wrong_arguments(self):
        for call in (fewest_events, greatest_slack, send):
            check_errors(self, call, (RULES, WRONG_RULES), ([("sl", 2)], WRONG_KINDS), (2, WRONG_COUNTS))
        check_errors(self, trade, (RULES, WRONG_RULES), ([("sl", 2)], WRONG_KINDS))

    def test_wrong_arguments_of_calls_with_texts(self):
        texts = [value for value in [*STRANGE, 0] if not isinstance(value, str)] + [
            ["e"], ("e",), "x", "E", "?", " ", "e ", " e", "e  t", "e\n", "\te", "e-t", "  ", "et x", Clumsy(),
        ]
        wrong = [(value, InvalidText, {}) for value in texts]
        rules = (2, 6, 2, 0, "none", False, "turn")
        for call in (fewest_for_text, send_text):
            check_errors(self, call, (rules, WRONG_RULES), (CODE, WRONG_CODE_ERRORS), ((6, 14), WRONG_GAPS),
                         ("et", wrong), (0, WRONG_COUNTS))
            check_errors(self, call, (rules, []), (CODE, []), ((6, 14), []), ("", []), (0, WRONG_COUNTS))

    def test_impossible_comes_ahead_of_too_large(self):
        rules = (20, 60, 20, 0, "none", False, "stay")
        check_raises(self, Impossible, {}, send, rules, [("sl", LONG)], 10)
        check_raises(self, TooLarge, {"limit": 200}, send, rules, [("sl", LONG)], 1)


if __name__ == "__main__":
    unittest.main()
