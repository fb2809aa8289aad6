"""Part 13 [33]: a console."""

import random
import unittest

from squeezedkeyer.console import Console
from squeezedkeyer.errors import (
    Impossible, InvalidCommand, InvalidLever, InvalidSyntax, InvalidTick, KeyerError, NothingToUndo,
)
from squeezedkeyer.live import Keyer
from squeezedkeyer.marks import count_marks, kinds_of
from squeezedkeyer.steady import slack
from squeezedkeyer.steps import count_steps
from squeezedkeyer.texts import format_record, format_rules, format_runs
from tests.helpers import STRANGE, check_raises, touches
from tests.plain import some_record, some_rules

PLAIN = "2 6 2 0 none no turn"
LIVE = ["undo", "runs", "would", "down", "remembered", "idle", "next", "log", "press s 0", "release s 0", "wait 0"]
ABOUT = ["kinds", "count", "slack", "steps"]
STATE = ["runs", "would", "down", "remembered", "idle", "next", "log"]
NO_COMMANDS = [
    "", " ", "x", "rules", "record", "Rules " + PLAIN, "RUNS", "Record ", "rule", "press", "press s", "press s 0 0",
    "press s 0 ", "press  0", "press s  0", "press  s 0", " press s 0", "press s +1", "press s 01", "press s -0",
    "press s 1.0", "press s x", "press 0 s", "press s " + "1" * 31, "press s 0\n", "press\ns 0", "release", "release s",
    "release s 0 0", "release s x", "release  0", "wait", "wait ", "wait x", "wait 0 0", "wait s 0", "wait 00", "wait  0",
    " wait 0", "wait 0 ", "wait -", "wait --1", "undo ", " undo", "undo 1", "undo undo", "runs 0", "runs ", "runs\n",
    "would s", "down s", "remembered ", "idle 1", "next 1", "log 0", "log\n", "kinds 1", "count ", "slack 0", "steps 0",
    " kinds", "steps\n", "tick", "fork", "would_be", "is_idle", "next_decision", "press s 0; wait 1", "none", "ok", "kind",
    "execute", "quit", "help", " record ", " rules " + PLAIN, "\nundo", "slack ", "press,s,0",
]


class ConsoleTest(unittest.TestCase):
    def answers(self, console, *pairs):
        for command, answer in pairs:
            with self.subTest(command=command):
                self.assertEqual(console.execute(command), answer)

    def refused(self, console, kind, told, *commands):
        """The commands raise this error and change nothing."""
        for command in commands:
            before = self.state(console)
            check_raises(self, kind, told, console.execute, command)
            self.assertEqual(self.state(console), before)

    def state(self, console):
        """All that a console answers, the names of its errors too."""
        found = []
        for command in STATE + ABOUT:
            try:
                found.append(console.execute(command))
            except KeyerError as error:
                found.append(type(error).__name__)
        return found


class CommandsTest(ConsoleTest):
    def test_each_command_and_its_answer(self):
        console = Console()
        self.answers(
            console, ("rules 2 6 2 0 press no turn", "ok"), ("runs", "none"), ("would", "none"), ("down", "none"),
            ("remembered", "none"), ("idle", "yes"), ("next", "none"), ("log", "none"), ("press s -4", "ok"),
            ("runs", "-4:s*1"), ("would", "-4:s*1"), ("down", "s"), ("idle", "no"), ("next", "0"),
            ("press l -3", "ok"), ("down", "l s"), ("remembered", "l"), ("remembered", "l"), ("wait 1", "ok"),
            ("runs", "-4:s*1 0:l*1"), ("runs", "-4:s*1 0:l*1"), ("remembered", "none"), ("release s 2", "ok"),
            ("would", "-4:s*1 0:l*1"), ("down", "l"), ("release l 8", "ok"), ("would", "-4:s*1 0:l*2"),
            ("log", "press s -4; press l -3; wait 1; release s 2; release l 8"), ("undo", "ok"), ("undo", "ok"),
            ("down", "l s"), ("log", "press s -4; press l -3; wait 1"), ("wait 100", "ok"), ("next", "104"),
            ("runs", "-4:sl*9"),
        )

    def test_commands_about_the_record(self):
        console = Console()
        self.answers(
            console, ("rules " + PLAIN, "ok"), ("record ", "ok"), ("kinds", "none"), ("count", "0"), ("slack", "none"),
            ("steps", "0"), ("record 0s+ 1l+ 20s- 20l-", "ok"), ("kinds", "sl*2"), ("kinds", "sl*2"), ("count", "4"),
            ("slack", "0"), ("steps", "9"), ("steps", "9"), ("record 0s+ 9s-", "ok"), ("kinds", "s*3"), ("count", "3"),
            ("slack", "0"), ("steps", "6"), (f"record 0s+ {10 ** 29}s- {2 * 10 ** 29}l+ {2 * 10 ** 29}l-", "ok"),
            ("kinds", "s*25000000000000000000000000001 l*1"), ("count", "25000000000000000000000000002"),
            ("steps", "25000000000000000000000000008"), ("rules 20 60 20 0 none no turn", "ok"), ("record 0s+ 5s-", "ok"),
            ("slack", "2"), ("count", "1"),
        )

    def test_new_rules_and_new_records(self):
        console = Console()
        self.answers(
            console, ("record 0s+ 9s-", "ok"), ("rules " + PLAIN, "ok"), ("count", "3"), ("press l 7", "ok"),
            ("record 0s+ 1s-", "ok"), ("count", "1"), ("runs", "7:l*1"), ("log", "press l 7"), ("down", "l"),
            ("rules 1 6 1 0 none no turn", "ok"), ("runs", "none"), ("down", "none"), ("log", "none"), ("idle", "yes"),
            ("count", "1"), ("record 0s+ 9s-", "ok"), ("count", "5"), ("press l 7", "ok"), ("undo", "ok"),
        )
        self.refused(console, NothingToUndo, {}, "undo")

    def test_no_rules_yet_and_no_record_yet(self):
        console = Console()
        self.refused(console, InvalidCommand, {}, *LIVE, *ABOUT)
        self.answers(console, ("record 0s+ 9s-", "ok"))
        self.refused(console, InvalidCommand, {}, *LIVE, *ABOUT, "press x 0")
        console = Console()
        self.answers(console, ("rules " + PLAIN, "ok"))
        self.refused(console, InvalidCommand, {}, *ABOUT)
        self.answers(console, ("runs", "none"), ("record ", "ok"), ("count", "0"))

    def test_values_that_are_no_commands(self):
        fresh, console = Console(), Console()
        self.answers(console, ("rules " + PLAIN, "ok"), ("record 0s+ 9s-", "ok"), ("press s 0", "ok"))
        for value in [*STRANGE, 0, ["undo"], ("undo",), b"undo", *NO_COMMANDS]:
            self.refused(fresh, InvalidCommand, {}, value)
            self.refused(console, InvalidCommand, {}, value)
        self.answers(console, ("log", "press s 0"), ("count", "3"))

    def test_texts_that_are_none(self):
        console = Console()
        for _ in range(2):
            for text, word in [("", 0), ("2", 1), (" " + PLAIN, 0), (PLAIN + " ", 7), (PLAIN + " 1", 7), ("x", 0),
                               ("2 6 0 0 none no turn", 2), (PLAIN + "\n", 6), ("2  6 2 0 none no turn", 1)]:
                self.refused(console, InvalidSyntax, {"line": 0, "word": word}, "rules " + text)
            for text, word in [(" ", 0), ("0s+", 1), ("0s+ 0s+", 1), (" 0s+ 0s-", 0), ("0s+ 0s- ", 2), ("x", 0),
                               ("0s+ 4l+ 3s- 9l-", 2), ("\n", 0)]:
                self.refused(console, InvalidSyntax, {"line": 0, "word": word}, "record " + text)
            self.answers(console, ("rules " + PLAIN, "ok"), ("record 0s+ 9s-", "ok"), ("press l 3", "ok"))
        self.answers(console, ("log", "press l 3"), ("count", "3"))

    def test_errors_of_the_calls(self):
        console = Console()
        self.answers(console, ("rules " + PLAIN, "ok"))
        self.refused(console, NothingToUndo, {}, "undo")
        self.refused(console, Impossible, {}, "release s 5", "release l -5")
        self.refused(console, InvalidLever, {}, "press x 0", "release sl 0", "press S 0", "press 0 0", "press s\n 0")
        self.answers(console, ("press s 5", "ok"))
        self.refused(console, InvalidTick, {}, "press s 4", "press l 4", "release s -5", "wait 4", "release l 4")
        self.refused(console, InvalidLever, {}, "press x 4", "release -1 4")
        self.refused(console, Impossible, {}, "press s 5", "release l 5", "press s 9")
        self.answers(console, ("log", "press s 5"), ("runs", "5:s*1"), ("release s 5", "ok"), ("down", "none"))

    def test_great_ticks(self):
        console = Console()
        great = "9" * 30
        self.answers(
            console, ("rules 2 6 2 0 none no turn", "ok"), (f"wait -{great}", "ok"), (f"press l -{great}", "ok"),
            (f"wait {great}", "ok"), (f"release l {great}", "ok"), ("down", "none"),
            ("log", f"wait -{great}; press l -{great}; wait {great}; release l {great}"),
            ("runs", f"-{great}:l*{2 * (10 ** 30 - 1) // 8 + 1}"), ("record " + format_record(touches(200)), "ok"),
            ("count", "100"),
        )

    def test_two_consoles_beside_each_other(self):
        one, other = Console(), Console()
        self.answers(one, ("rules " + PLAIN, "ok"), ("record 0s+ 9s-", "ok"), ("press s 0", "ok"))
        self.refused(other, InvalidCommand, {}, *LIVE, *ABOUT)
        self.answers(other, ("rules 1 1 1 0 held yes stay", "ok"), ("log", "none"))
        self.refused(other, InvalidCommand, {}, *ABOUT)
        self.answers(other, ("press l 3", "ok"), ("record ", "ok"), ("count", "0"))
        self.answers(one, ("log", "press s 0"), ("count", "3"), ("undo", "ok"), ("log", "none"))
        self.answers(other, ("log", "press l 3"), ("runs", "3:l*1"))


class AgainstTheCallsTest(ConsoleTest):
    def test_some_commands(self):
        chance = random.Random(84)
        for _ in range(40):
            rules = some_rules(chance, 8)
            record = some_record(rules, chance.randint(0, 8), chance)
            console, keyer = Console(), Keyer(rules)
            self.answers(console, ("record " + format_record(record), "ok"), ("rules " + format_rules(rules), "ok"))
            tick = chance.randint(-9, 9)
            for _ in range(25):
                tick += chance.choice([0, 0, 1, 2, 5, -1])
                lever = chance.choice(["s", "l", "x"] if chance.random() < 0.1 else ["s", "l"])
                word = chance.choice(["press", "release", "wait", "undo"])
                command = " ".join([word, *{"wait": [str(tick)], "undo": []}.get(word, [lever, str(tick)])])
                arguments = {"wait": [tick], "undo": []}.get(word, [lever, tick])
                try:
                    getattr(keyer, word)(*arguments)
                    self.assertEqual(console.execute(command), "ok")
                except KeyerError as error:
                    self.refused(console, type(error), {}, command)
                self.answers(
                    console, ("runs", format_runs(keyer.runs) or "none"), ("down", " ".join(keyer.down) or "none"),
                    ("would", format_runs(keyer.would_be()) or "none"), ("idle", "yes" if keyer.is_idle else "no"),
                    ("remembered", " ".join(keyer.remembered) or "none"), ("next", str(keyer.next_decision).lower()),
                    ("log", "; ".join(" ".join(map(str, call)) for call in keyer.log) or "none"),
                )
            self.answers(
                console, ("kinds", " ".join(f"{word}*{times}" for word, times in kinds_of(rules, record)) or "none"),
                ("count", str(count_marks(rules, record))), ("slack", str(slack(rules, record)).lower()),
                ("steps", str(count_steps(rules, record))),
            )


if __name__ == "__main__":
    unittest.main()
