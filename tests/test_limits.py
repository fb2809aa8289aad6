"""[2] and the points: each call ends within a few seconds for the greatest arguments, too."""

import random
import time
import unittest

from squeezedkeyer.console import Console
from squeezedkeyer.errors import KeyerError
from squeezedkeyer.fits import fitting, greatest_fit, least_fit
from squeezedkeyer.heard import fewest_down_at, fewest_for_runs, is_possible, record_for, rules_for
from squeezedkeyer.letters import read, read_runs
from squeezedkeyer.live import Keyer
from squeezedkeyer.marks import count_begun, count_marks, idle_from, kinds_of, mark_at, nth_mark, runs_of
from squeezedkeyer.parting import fewest_parting, parting_record, shows_parting
from squeezedkeyer.runs import spans
from squeezedkeyer.sending import fewest_events, fewest_for_text, greatest_slack, send, send_text, trade
from squeezedkeyer.steady import shows_upset, slack, steadier, upset
from squeezedkeyer.steps import count_steps, count_word, steps
from squeezedkeyer.texts import format_record, format_runs, parse_record
from squeezedkeyer.windows import windows, windows_for
from tests.helpers import GREAT
from tests.test_letters import FULL

LONG = 10 ** 29
# Far more than any of the calls takes, for slow machines.
MOST_SECONDS = 15

SEVERAL = [
    (1, 2, 1, 0, "none", False, "turn"), (3, 1, 2, 4, "held", True, "stay"), (2, 2, 1, 2, "press", True, "s"),
    (LONG, 3 * LONG + 7, LONG // 3, LONG, "press", True, "turn"), (GREAT, 1, 1, 1, "held", False, "l"),
    (1, GREAT, 1, GREAT, "held", True, "stay"), (GREAT, GREAT - 1, GREAT, 0, "held", True, "turn"),
]


def long_records():
    """Records of 200 events over very many ticks, or at few."""
    chance = random.Random(97)
    for last in (0, 300, 10 ** 6, GREAT):
        ticks = sorted(chance.randint(-last, last) for _ in range(200))
        down = []
        record = []
        for index, tick in enumerate(ticks):
            lever = min(down) if down and len(down) >= 200 - index else chance.choice("sl")
            record.append((tick, lever, lever not in down))
            down = [each for each in "sl" if (each in down) != (each == lever)]
        yield record


def long_runs(rules, many, rest):
    """So many runs of very many marks, with gaps that are longer than the pause by so much, or not."""
    span, runs, begin = spans(rules), [], -GREAT
    for index in range(many):
        word = ["s", "l", "sl", "ls"][index % 4]
        runs.append((begin, word, LONG - index))
        begin += span[word] * (LONG - index) + index % 2 * rest
    return runs


class LimitsTest(unittest.TestCase):
    def ends(self, call, *arguments):
        """The call ends in time, also with an error; its answer, or None."""
        begun = time.monotonic()
        try:
            answer = call(*arguments)
        except KeyerError:
            answer = None
        seconds = time.monotonic() - begun
        self.assertLess(seconds, MOST_SECONDS, (call.__name__, arguments))
        return answer

    def test_calls_with_records(self):
        for record in long_records():
            for rules in SEVERAL:
                for call in (runs_of, kinds_of, count_marks, idle_from, steps, count_steps, slack, steadier):
                    self.ends(call, rules, record)
                for call in (mark_at, count_begun):
                    self.ends(call, rules, record, record[100][0])
                self.ends(nth_mark, rules, record, count_marks(rules, record) - 1)
                self.ends(count_word, rules, record, "hear")
                self.assertTrue(self.ends(shows_upset, rules, record, self.ends(upset, rules, record)))
                self.ends(read, rules, FULL, (rules[2] + 1, rules[2] + 2), record)
                self.ends(shows_parting, rules, SEVERAL[0], record)
            self.assertEqual(self.ends(parse_record, self.ends(format_record, record)), record)

    def test_calls_with_kinds(self):
        kinds = [("sl", LONG), ("s", LONG), ("l", LONG - 1), ("ls", LONG - 7)] * 25
        for rules in SEVERAL:
            for least in (0, 1, 10 ** 28, GREAT):
                self.ends(fewest_events, rules, kinds, least)
                self.ends(send, rules, kinds, least)
            self.assertGreater(len(self.ends(trade, rules, kinds)), 0)
            self.ends(greatest_slack, rules, kinds, GREAT)

    def test_calls_with_texts(self):
        for rules in SEVERAL:
            gaps = (rules[2] + 5, rules[2] + 10)
            letters = sorted(FULL, key=lambda letter: len(FULL[letter]))
            for text in ((letters[-1] + letters[-2]) * 2000, letters[-1] * 25, (letters[-1] + " ") * 1999 + "a"):
                for least in (0, 1):
                    self.ends(fewest_for_text, rules, FULL, gaps, text, least)
                    self.ends(send_text, rules, FULL, gaps, text, least)

    def test_calls_with_runs(self):
        for rules in SEVERAL:
            for rest, least in [(0, 0), (0, 1), (1, 0), (10 ** 28, 10 ** 27)]:
                runs = long_runs(rules, 100, rest)
                self.ends(read_runs, rules, FULL, (rules[2] + 1, rules[2] + 2), runs)
                self.ends(format_runs, runs)
                for call in (is_possible, fewest_for_runs, record_for):
                    self.ends(call, rules, runs, least)
                for index in (0, 50):
                    self.ends(fewest_down_at, rules, runs, least, "s", runs[index][0] + LONG)

    def test_rules_for(self):
        for rules in SEVERAL[:1] + SEVERAL[3:]:
            for rest, least in [(0, 0), (0, 1), (10 ** 28, 10 ** 27)]:
                self.ends(rules_for, *rules[:3], long_runs(rules, 12, rest), least, GREAT)

    def test_calls_with_two_rules(self):
        for one in SEVERAL:
            for other in SEVERAL + [one[:3] + rules[3:] for rules in SEVERAL]:
                self.ends(parting_record, one, other)
                self.ends(fewest_parting, one, other)

    def test_windows_and_fits(self):
        chance = random.Random(98)
        period = 10 ** 27
        for rest, first in [(("none", True, "stay"), 0), (("none", False, "s"), 60), (("held", True, "turn"), 30),
                            (("press", False, "turn"), 60)]:
            rules = (period - 5, 3 * period, 5, period // 3, *rest)
            ticks = sorted(first * period + chance.randrange(3 * period) for _ in range(198))
            record = [(0, "s", True)] + [(tick, "l", index % 2 == 0) for index, tick in enumerate(ticks)]
            record += [(90 * period, "s", False)]
            kinds = kinds_of(rules, record)
            for index in (0, 1, 99, 198, 199):
                self.ends(windows, rules, record, index)
                self.ends(windows_for, rules, record, index, kinds)
                self.ends(windows_for, rules, record, index, [("s", 100)])
            for name in ("s", "l", "pause", "deaf"):
                for call in (fitting, least_fit, greatest_fit):
                    self.ends(call, rules, name, [(record, kinds)] * 6)
                    self.ends(call, rules, name, [(record, [("s", 100)])] * 6)
        for record in long_records():
            for rules in SEVERAL:
                self.ends(windows, rules, record, 100)
                self.ends(fitting, rules, "pause", [(record, [("s", 100)]), (record, [("sl", 50)])])

    def test_two_hundred_calls(self):
        for rules in SEVERAL:
            keyer, console = Keyer(rules), Console()
            console.execute("record " + format_record(next(long_records())))
            console.execute("rules 1 2 1 0 held yes turn")
            begun = time.monotonic()
            for index in range(100):
                for word in ("press", "release"):
                    lever = "sl"[index // 2 % 2]
                    getattr(keyer, word)(lever, index * 10 ** 28 // 7)
                    console.execute(f"{word} {lever} {index * 10 ** 28 // 7}")
                    self.assertEqual(len(keyer.fork().log), len(keyer.log))
                    for command in ("runs", "would", "down", "remembered", "next", "log", "kinds", "slack"):
                        console.execute(command)
                    keyer.would_be()
            self.assertLess(time.monotonic() - begun, 8 * MOST_SECONDS)


if __name__ == "__main__":
    unittest.main()
