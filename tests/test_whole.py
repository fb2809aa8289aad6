"""The whole program: levers exchanged, numbers multiplied, ticks shifted, plain rules; and no state between calls."""

import copy
import random
import unittest

from squeezedkeyer import records, rules as rules_module
from squeezedkeyer.fits import fitting
from squeezedkeyer.heard import fewest_down_at, fewest_for_runs, is_possible, record_for, rules_for
from squeezedkeyer.letters import read, read_runs
from squeezedkeyer.live import Keyer
from squeezedkeyer.marks import count_begun, count_marks, idle_from, kinds_of, mark_at, nth_mark, runs_of
from squeezedkeyer.parting import fewest_parting, parting_record, shows_parting
from squeezedkeyer.sending import fewest_events, fewest_for_text, greatest_slack, send, send_text, trade
from squeezedkeyer.steady import shows_upset, slack, steadier, upset
from squeezedkeyer.steps import count_steps, count_word, steps
from squeezedkeyer.texts import format_record, format_rules, format_runs, parse_record, parse_rules
from squeezedkeyer.windows import windows, windows_for
from tests.plain import how_many, some_record, some_rules

OTHERS = {"s": "l", "l": "s", "sl": "ls", "ls": "sl"}
CODE = {"e": "s", "t": "l", "a": "sl", "n": "ls", "i": "ss", "m": "ll", "k": "lsl"}


def exchanged_text(text):
    return text.translate(str.maketrans("sl", "ls"))


def some_case(chance):
    rules = some_rules(chance, chance.choice([4, 9]))
    record = some_record(rules, chance.randint(1, 8), chance)
    return rules, steadier(rules, record) if chance.random() < 0.4 else record


class ExchangedTest(unittest.TestCase):
    def test_levers_exchanged(self):
        chance = random.Random(91)
        for _ in range(120):
            rules, record = some_case(chance)
            other, mirror = rules_module.exchanged(rules), records.exchanged(record)
            runs = runs_of(rules, record)
            other_runs = [(begin, OTHERS[word], times) for begin, word, times in runs]
            kinds = kinds_of(rules, record)
            other_kinds = [(OTHERS[word], times) for word, times in kinds]
            self.assertEqual(runs_of(other, mirror), other_runs)
            self.assertEqual(kinds_of(other, mirror), other_kinds)
            self.assertEqual(idle_from(other, mirror), idle_from(rules, record))
            index = chance.randrange(count_marks(rules, record))
            begin, end, kind = nth_mark(rules, record, index)
            self.assertEqual(nth_mark(other, mirror, index), (begin, end, OTHERS[kind]))
            self.assertEqual(mark_at(other, mirror, begin), (begin, end, OTHERS[kind]))
            self.assertEqual([(tick, word[:-1] + OTHERS.get(word[-1], word[-1]) if " " in word else word)
                              for tick, word in steps(rules, record)], steps(other, mirror))
            self.assertEqual(count_word(other, mirror, "begin s"), count_word(rules, record, "begin l"))
            self.assertEqual(slack(other, mirror), slack(rules, record))
            self.assertEqual(slack(other, steadier(other, mirror)), slack(rules, steadier(rules, record)))
            self.assertTrue(shows_upset(other, mirror, [(tick, OTHERS[lever], is_press)
                                                        for tick, lever, is_press in upset(rules, record)]))
            mirror_code = {letter: exchanged_text(word) for letter, word in CODE.items()}
            gaps = (rules[2] + 2, rules[2] + 5)
            self.assertEqual(read(other, mirror_code, gaps, mirror), read(rules, CODE, gaps, record))
            self.assertEqual(fewest_for_text(other, mirror_code, gaps, "ta k", 1),
                             fewest_for_text(rules, CODE, gaps, "ta k", 1))
            for least in (0, 1, 2):
                self.assertEqual(fewest_events(other, other_kinds, least), fewest_events(rules, kinds, least))
                self.assertEqual(fewest_for_runs(other, other_runs, least), fewest_for_runs(rules, runs, least))
            self.assertEqual(trade(other, other_kinds), trade(rules, kinds))
            tick = chance.randint(begin - 2, end + 2)
            for lever in "sl":
                self.assertIs(fewest_down_at(other, other_runs, 0, OTHERS[lever], tick),
                              fewest_down_at(rules, runs, 0, lever, tick))
            if how_many(kinds) <= 100:
                index = chance.randrange(len(record))
                self.assertEqual(windows(other, mirror, index), windows(rules, record, index))
                self.assertEqual(fitting(other, "l", [(mirror, other_kinds)]), fitting(rules, "s", [(record, kinds)]))
            unlike = some_rules(chance, 9)
            self.assertEqual(fewest_parting(other, rules_module.exchanged(unlike)), fewest_parting(rules, unlike))
            self.assertEqual(shows_parting(other, rules_module.exchanged(unlike), mirror),
                             shows_parting(rules, unlike, record))

    def test_rules_for_with_levers_exchanged(self):
        chance = random.Random(92)
        words = {"s": "l", "l": "s"}
        for _ in range(6):
            rules, record = some_case(chance)
            runs = runs_of(rules, record)[:3]
            other_runs = [(begin, OTHERS[word], times) for begin, word, times in runs]
            found = rules_for(*rules[:3], runs, 0, len(record))
            mirror = rules_for(rules[1], rules[0], rules[2], other_runs, 0, len(record))
            self.assertEqual(sorted((remember, again, words.get(both, both), low, high)
                                    for remember, again, both, low, high in found), mirror)


class ShiftedTest(unittest.TestCase):
    def test_ticks_shifted(self):
        chance = random.Random(93)
        for _ in range(120):
            rules, record = some_case(chance)
            by = chance.choice([-(10 ** 29), -7, 1, 10 ** 29])
            late = records.shifted(record, by)
            runs = runs_of(rules, record)
            late_runs = [(begin + by, word, times) for begin, word, times in runs]
            self.assertEqual(runs_of(rules, late), late_runs)
            self.assertEqual(kinds_of(rules, late), kinds_of(rules, record))
            self.assertEqual(idle_from(rules, late), idle_from(rules, record) + by)
            self.assertEqual(steps(rules, late), [(tick + by, word) for tick, word in steps(rules, record)])
            self.assertEqual(slack(rules, late), slack(rules, record))
            self.assertEqual(slack(rules, steadier(rules, late)), slack(rules, steadier(rules, record)))
            self.assertTrue(shows_upset(rules, late, records.shifted(upset(rules, record), by)
                                        if records.is_record(upset(rules, record)) else upset(rules, late)))
            gaps = (rules[2] + 2, rules[2] + 5)
            self.assertEqual(read(rules, CODE, gaps, late), read(rules, CODE, gaps, record))
            self.assertEqual(read_runs(rules, CODE, gaps, late_runs), read(rules, CODE, gaps, record))
            for least in (0, 1):
                self.assertEqual(fewest_for_runs(rules, late_runs, least), fewest_for_runs(rules, runs, least))
                tick = chance.randint(runs[0][0] - 3, idle_from(rules, record) + 3)
                if is_possible(rules, runs, least):
                    for lever in "sl":
                        self.assertIs(fewest_down_at(rules, late_runs, least, lever, tick + by),
                                      fewest_down_at(rules, runs, least, lever, tick))
            tick = chance.randint(runs[0][0] - 3, idle_from(rules, record) + 3)
            self.assertEqual(count_begun(rules, late, tick + by), count_begun(rules, record, tick))
            kinds = kinds_of(rules, record)
            if how_many(kinds) <= 100:
                index = chance.randrange(len(record))
                self.assertEqual(windows(rules, late, index),
                                 [(low + by, high + by) for low, high in windows(rules, record, index)])
                for name in ("s", "l", "pause", "deaf"):
                    self.assertEqual(fitting(rules, name, [(late, kinds)]), fitting(rules, name, [(record, kinds)]))
            self.assertEqual(shows_parting(rules, (2, 2, 2, 0, "held", True, "s"), late),
                             shows_parting(rules, (2, 2, 2, 0, "held", True, "s"), record))


class MultipliedTest(unittest.TestCase):
    def test_numbers_multiplied(self):
        chance = random.Random(94)
        for _ in range(100):
            rules, record = some_case(chance)
            by = chance.choice([2, 3, 10 ** 28])
            great, far = rules_module.multiplied(rules, by), records.multiplied(record, by)
            runs = runs_of(rules, record)
            far_runs = [(begin * by, word, times) for begin, word, times in runs]
            kinds = kinds_of(rules, record)
            self.assertEqual(runs_of(great, far), far_runs)
            self.assertEqual(idle_from(great, far), idle_from(rules, record) * by)
            self.assertEqual(steps(great, far), [(tick * by, word) for tick, word in steps(rules, record)])
            self.assertEqual(count_steps(great, far), count_steps(rules, record))
            # Between all borders lies as much more; a tick ahead of a border stays one tick.
            self.assertTrue(by * slack(rules, record) <= slack(great, far) < by * (slack(rules, record) + 1))
            self.assertEqual(fewest_events(great, kinds, 0), fewest_events(rules, kinds, 0))
            for events, least in trade(rules, kinds):
                self.assertLessEqual(fewest_events(great, kinds, by * least), events)
                self.assertGreaterEqual(greatest_slack(great, kinds, events), by * least)
            for least in (0, 1, 2):
                small = fewest_for_runs(rules, runs, least)
                if small is not None:
                    self.assertLessEqual(fewest_for_runs(great, far_runs, by * least), small)
            self.assertEqual(fewest_for_runs(great, far_runs, 0), fewest_for_runs(rules, runs, 0))
            other = some_rules(chance, 9)
            self.assertEqual(fewest_parting(great, rules_module.multiplied(other, by)), fewest_parting(rules, other))
            self.assertEqual(shows_parting(great, rules_module.multiplied(other, by), far),
                             shows_parting(rules, other, record))
            if how_many(kinds) <= 100:
                index = chance.randrange(len(record))
                found = windows(great, far, index)
                for low, high in windows(rules, record, index):
                    self.assertTrue(any(least <= low * by and high * by <= most for least, most in found))


class PlainRulesTest(unittest.TestCase):
    def test_plain_rules_in_the_place_of_rules(self):
        chance = random.Random(95)
        changed = 0
        for _ in range(150):
            rules, record = some_case(chance)
            plain = rules_module.plain(rules)
            changed += plain != rules
            runs, kinds = runs_of(rules, record), kinds_of(rules, record)
            self.assertEqual(runs_of(plain, record), runs)
            self.assertEqual(idle_from(plain, record), idle_from(rules, record))
            gaps = (rules[2] + 1, rules[2] + 4)
            self.assertEqual(read(plain, CODE, gaps, record), read(rules, CODE, gaps, record))
            self.assertFalse(shows_parting(plain, rules, record))
            self.assertIsNone(parting_record(rules, plain))
            # The slack depends on the hearings, but with the slack 0 all depends on the marks alone.
            self.assertEqual(fewest_events(plain, kinds, 0), fewest_events(rules, kinds, 0))
            self.assertEqual(fewest_for_runs(plain, runs, 0), fewest_for_runs(rules, runs, 0))
            self.assertEqual(fewest_for_text(plain, CODE, gaps, "kat", 0), fewest_for_text(rules, CODE, gaps, "kat", 0))
            other = some_rules(chance, 9)
            self.assertEqual(fewest_parting(plain, other), fewest_parting(rules, other))
            self.assertEqual(shows_parting(plain, other, record), shows_parting(rules, other, record))
            tick = chance.randint(runs[0][0] - 3, idle_from(rules, record) + 3)
            for lever in "sl":
                self.assertIs(fewest_down_at(plain, runs, 0, lever, tick), fewest_down_at(rules, runs, 0, lever, tick))
            if how_many(kinds) <= 100:
                for index in range(len(record)):
                    self.assertEqual(windows(plain, record, index), windows(rules, record, index))
            keyer, other_keyer = Keyer(rules), Keyer(plain)
            for at, lever, is_press in record:
                for each in (keyer, other_keyer):
                    (each.press if is_press else each.release)(lever, at)
                self.assertEqual(keyer.runs, other_keyer.runs)
                self.assertEqual(keyer.would_be(), other_keyer.would_be())
        self.assertGreater(changed, 30)


class RoundTest(unittest.TestCase):
    def test_what_is_returned_can_be_passed_on(self):
        chance = random.Random(96)
        for _ in range(60):
            rules, record = some_case(chance)
            rules, record = parse_rules(format_rules(rules)), parse_record(format_record(record))
            runs, kinds = runs_of(rules, record), kinds_of(rules, record)
            self.assertEqual(runs_of(rules, record_for(rules, runs, 0)), runs)
            self.assertEqual(kinds_of(rules, send(rules, kinds, 0)), kinds)
            self.assertEqual(windows_for(rules, record, 0, kinds), windows(rules, record, 0))
            self.assertEqual(len(format_runs(runs).split(" ")), len(runs))
            gaps = (rules[2] + 9, rules[2] + 40)
            text = read(rules, CODE, gaps, record)
            if "?" not in text:
                self.assertEqual(read(rules, CODE, gaps, send_text(rules, CODE, gaps, text, 0)), text)

    def test_what_is_returned_is_new_and_arguments_stay(self):
        rules, record = (20, 60, 20, 13, "held", True, "turn"), [(0, "s", True), (15, "s", False)]
        kinds, runs, gaps = [("s", 1)], [(0, "s", 1)], (60, 140)
        cases = [(record, kinds)]
        code = dict(CODE)
        other = (20, 60, 20, 13, "press", True, "turn")
        calls = [
            (send, rules, kinds, 0), (trade, rules, kinds), (send_text, rules, code, gaps, "e", 0),
            (steadier, rules, record), (upset, rules, record), (parting_record, rules, other), (runs_of, rules, record),
            (record_for, rules, runs, 0), (rules_for, 20, 60, 20, runs, 0, 2), (windows, rules, record, 1),
            (windows_for, rules, record, 1, kinds), (fitting, rules, "deaf", cases), (steps, rules, record),
            (parse_record, "0s+ 15s-"), (kinds_of, rules, record), (records.shifted, record, 5),
        ]
        for call, *arguments in calls:
            with self.subTest(call=call.__name__):
                before = copy.deepcopy(arguments)
                first = call(*arguments)
                expected = copy.deepcopy(first)
                first.clear()
                self.assertEqual(call(*arguments), expected)
                self.assertNotEqual(expected, [])
                self.assertEqual(repr(arguments), repr(before))


if __name__ == "__main__":
    unittest.main()
