"""Part 5: a live keyer [16] to [18]."""

import random
import unittest

from squeezedkeyer import errors
from squeezedkeyer.errors import Impossible, InvalidLever, InvalidRules, InvalidTick, NothingToUndo
from squeezedkeyer.live import Keyer
from squeezedkeyer.marks import runs_of
from squeezedkeyer.rules import exchanged
from tests.helpers import GREAT, NO_INTEGERS, NO_LEVERS, STRANGE, WRONG_RULES, Clumsy, check_raises
from tests.plain import PlainKeyer, plain_keyer, plain_runs, small_rules

LONG = 10 ** 29
RULES = (2, 6, 2, 0, "press", False, "turn")
PROPERTIES = ["tick", "runs", "is_idle", "down", "remembered", "next_decision", "log"]


def shown(keyer):
    """All that can be read off a keyer."""
    return {name: getattr(keyer, name) for name in PROPERTIES} | {"would_be": keyer.would_be()}


def plain_shown(rules, calls):
    """The same by the plain keyer, for the calls that are not taken back."""
    plain, events = PlainKeyer(rules), []
    for call in calls:
        plain.go_to(call[-1])
        if call[0] != "wait":
            plain.event(call[1], call[0] == "press")
            events.append((call[2], call[1], call[0] == "press"))
    releases = [(plain.now, lever, False) for lever in sorted(plain.down)]
    return {
        "tick": plain.now,
        "runs": plain_runs(rules, plain.marks),
        "is_idle": plain.mark is None,
        "down": sorted(plain.down),
        "remembered": sorted(plain.remembered),
        "next_decision": None if plain.mark is None else plain.decision(),
        "log": calls,
        "would_be": plain_runs(rules, plain_keyer(rules, events + releases).marks) if events else [],
    }


def told(rules, calls):
    """A keyer that has been told these calls."""
    keyer = Keyer(rules)
    for name, *arguments in calls:
        getattr(keyer, name)(*arguments)
    return keyer


def some_call(keyer, chance):
    """A call that the keyer can be told now."""
    now = 0 if keyer.tick is None else keyer.tick
    near = [now, now, now + 1, now + chance.randint(0, 9)]
    if keyer.next_decision is not None:
        near += [tick for tick in range(keyer.next_decision - 1, keyer.next_decision + 2) if tick >= now]
    tick = chance.choice(near)
    if chance.random() < 0.2:
        return ("wait", tick)
    lever = chance.choice("sl")
    return ("release" if lever in keyer.down else "press", lever, tick)


class LiveTest(unittest.TestCase):
    def raises(self, kind, keyer, name, *arguments):
        """A call raises this error, and the keyer stays as it was."""
        before, copied = shown(keyer), keyer.fork()
        check_raises(self, kind, {}, getattr(keyer, name), *arguments)
        self.assertEqual(shown(keyer), before)
        self.assertTrue(keyer == copied)


class AgainstThePlainKeyerTest(LiveTest):
    def test_all_properties_behind_each_call(self):
        chance = random.Random(21)
        for rules in chance.sample(list(small_rules()), 500):
            keyer, calls = Keyer(rules), []
            for _ in range(12):
                if calls and chance.random() < 0.15:
                    calls.pop()
                    self.assertIsNone(keyer.undo())
                else:
                    calls.append(some_call(keyer, chance))
                    name, *arguments = calls[-1]
                    self.assertIsNone(getattr(keyer, name)(*arguments))
                if shown(keyer) != plain_shown(rules, calls):
                    self.fail((rules, calls, shown(keyer), plain_shown(rules, calls)))

    def test_two_hundred_calls(self):
        chance = random.Random(22)
        for rules in chance.sample(list(small_rules()), 5):
            keyer, calls = Keyer(rules), []
            for many in range(200):
                if many % 7 == 6:
                    keyer.undo()
                    calls.pop()
                else:
                    calls.append(some_call(keyer, chance))
                    getattr(keyer, calls[-1][0])(*calls[-1][1:])
            self.assertEqual(shown(keyer), plain_shown(rules, calls))
            self.assertTrue(keyer == told(rules, calls))

    def test_two_hundred_events(self):
        keyer = Keyer(RULES)
        for many in range(100):
            keyer.press("s", 10 * many)
            keyer.release("s", 10 * many)
        self.assertEqual(keyer.runs, [(10 * many, "s", 1) for many in range(100)])
        self.assertEqual(keyer.would_be(), keyer.runs)
        self.assertEqual(len(keyer.log), 200)

    def test_would_be_with_a_record_of_events(self):
        record = [(0, "s", True), (1, "l", True), (30, "s", False), (30, "l", False)]
        keyer = told(RULES, [("press", "s", 0), ("press", "l", 1), ("wait", 30)])
        self.assertEqual(keyer.would_be(), runs_of(RULES, record))
        self.assertEqual(keyer.down, ["l", "s"])


class CallsTest(LiveTest):
    def test_at_first(self):
        keyer = Keyer(RULES)
        self.assertEqual(shown(keyer), {
            "tick": None, "runs": [], "is_idle": True, "down": [], "remembered": [], "next_decision": None, "log": [],
            "would_be": [],
        })

    def test_the_first_tick_can_be_any(self):
        for tick in (0, -1, -GREAT, GREAT):
            for name, *arguments in [("wait",), ("press", "s"), ("press", "l")]:
                keyer = told(RULES, [(name, *arguments, tick)])
                self.assertEqual(keyer.tick, tick)
                self.assertEqual(keyer.log, [(name, *arguments, tick)])
        self.assertEqual(told(RULES, [("wait", 5)]).would_be(), [])

    def test_later_equal_and_earlier_ticks(self):
        for ahead in [("wait", 5), ("press", "s", 5)]:
            for name, *arguments in [("wait",), ("press", "l")]:
                for tick in (5, 6, GREAT):
                    keyer = told(RULES, [ahead])
                    getattr(keyer, name)(*arguments, tick)
                    self.assertEqual(keyer.tick, tick)
                for tick in (4, 0, -GREAT):
                    self.raises(InvalidTick, told(RULES, [ahead]), name, *arguments, tick)
        keyer = told(RULES, [("press", "s", 5)])
        self.raises(InvalidTick, keyer, "release", "s", 4)
        keyer.release("s", 5)
        self.assertEqual((keyer.tick, keyer.down), (5, []))

    def test_undo_makes_an_earlier_tick_possible(self):
        keyer = told(RULES, [("press", "s", 5), ("wait", 20)])
        self.raises(InvalidTick, keyer, "wait", 19)
        keyer.undo()
        keyer.release("s", 6)
        keyer.undo()
        keyer.undo()
        self.assertIsNone(keyer.tick)
        keyer.press("l", -3)
        self.assertEqual(keyer.runs, [(-3, "l", 1)])

    def test_the_clock_comes_ahead_of_the_events_of_a_tick(self):
        keyer = told((2, 6, 2, 3, "held", False, "turn"), [("press", "s", 0), ("release", "s", 1), ("press", "l", 2)])
        self.assertEqual(keyer.remembered, [])
        keyer.wait(3)
        self.assertEqual(keyer.remembered, ["l"])
        keyer.release("l", 3)
        self.assertEqual((keyer.remembered, keyer.would_be()), (["l"], [(0, "s", 1), (4, "l", 1)]))
        keyer.wait(4)
        self.assertEqual((keyer.runs, keyer.next_decision), ([(0, "s", 1), (4, "l", 1)], 12))
        keyer.wait(11)
        self.assertFalse(keyer.is_idle)
        keyer.wait(12)
        self.assertEqual((keyer.is_idle, keyer.next_decision, keyer.runs), (True, None, [(0, "s", 1), (4, "l", 1)]))

    def test_both_levers_remembered(self):
        keyer = told((2, 6, 2, 0, "press", True, "turn"), [
            ("press", "s", 0), ("release", "s", 0), ("press", "s", 1), ("release", "s", 1), ("press", "l", 2),
        ])
        self.assertEqual((keyer.remembered, keyer.down), (["l", "s"], ["l"]))

    def test_a_long_time(self):
        keyer = told(RULES, [("press", "s", 0), ("wait", LONG)])
        self.assertEqual(keyer.runs, [(0, "s", LONG // 4 + 1)])
        self.assertEqual((keyer.tick, keyer.next_decision, keyer.is_idle), (LONG, LONG + 4, False))
        self.assertEqual(keyer.would_be(), [(0, "s", LONG // 4 + 1)])
        keyer.press("l", 2 * LONG + 1)
        self.assertEqual(keyer.remembered, ["l"])
        self.assertEqual(keyer.would_be(), [(0, "s", LONG // 2 + 1), (2 * LONG + 4, "l", 1)])
        keyer.wait(2 * LONG + 12 * LONG + 3)
        self.assertEqual(keyer.runs, [(0, "s", LONG // 2 + 1), (2 * LONG + 4, "ls", LONG)])
        keyer.wait(2 * LONG + 12 * LONG + 4)
        self.assertEqual(keyer.runs, [(0, "s", LONG // 2 + 1), (2 * LONG + 4, "ls", LONG), (14 * LONG + 4, "l", 1)])
        self.assertEqual(keyer.next_decision, 14 * LONG + 12)
        keyer.undo()
        keyer.undo()
        keyer.undo()
        self.assertEqual((keyer.tick, keyer.runs, keyer.down), (LONG, [(0, "s", LONG // 4 + 1)], ["s"]))

    def test_what_is_returned_is_a_new_list(self):
        keyer = told(RULES, [("press", "s", 0), ("press", "l", 1), ("wait", 9)])
        for name in ["runs", "down", "remembered", "log"]:
            before = shown(keyer)
            getattr(keyer, name).append("spoilt")
            getattr(keyer, name).clear()
            self.assertEqual(shown(keyer), before)
        keyer.would_be().clear()
        self.assertEqual(keyer.would_be(), before["would_be"])

    def test_properties_cannot_be_assigned(self):
        keyer = Keyer(RULES)
        for name in PROPERTIES:
            with self.subTest(name=name), self.assertRaises(AttributeError):
                setattr(keyer, name, None)


class ErrorsTest(LiveTest):
    def test_wrong_rules(self):
        for value, kind, told_fields in WRONG_RULES:
            check_raises(self, kind, told_fields, Keyer, value)
        with self.assertRaises(InvalidRules):
            Keyer(None)

    def test_wrong_levers(self):
        for keyer in (Keyer(RULES), told(RULES, [("press", "s", 5)])):
            for value in NO_LEVERS:
                for tick in (9, 0, None):
                    self.raises(InvalidLever, keyer, "press", value, tick)
                    self.raises(InvalidLever, keyer, "release", value, tick)

    def test_wrong_ticks(self):
        for keyer in (Keyer(RULES), told(RULES, [("press", "s", 5)])):
            for value in NO_INTEGERS:
                self.raises(InvalidTick, keyer, "wait", value)
                for name in ("press", "release"):
                    for lever in "sl":
                        self.raises(InvalidTick, keyer, name, lever, value)

    def test_what_is_impossible(self):
        for lever, other in ["sl", "ls"]:
            keyer = Keyer(RULES)
            for tick in (0, -GREAT):
                self.raises(Impossible, keyer, "release", lever, tick)
            keyer.press(lever, 5)
            for tick in (5, 6, LONG):
                self.raises(Impossible, keyer, "press", lever, tick)
                self.raises(Impossible, keyer, "release", other, tick)
            self.raises(InvalidTick, keyer, "press", lever, 4)
            self.raises(InvalidTick, keyer, "release", other, 4)
            keyer.release(lever, 7)
            self.raises(Impossible, keyer, "release", lever, 7)
            self.raises(Impossible, keyer, "release", lever, 90)

    def test_nothing_to_undo(self):
        keyer = Keyer(RULES)
        self.raises(NothingToUndo, keyer, "undo")
        calls = [("wait", 1), ("press", "s", 2), ("press", "l", 3), ("release", "s", 9), ("wait", 9)]
        for name, *arguments in calls:
            getattr(keyer, name)(*arguments)
        for many in (4, 3, 2, 1, 0):
            keyer.undo()
            self.assertEqual(keyer.log, calls[:many])
            self.assertTrue(keyer == told(RULES, calls[:many]))
        self.raises(NothingToUndo, keyer, "undo")
        self.raises(NothingToUndo, keyer, "undo")
        self.assertEqual(shown(keyer), shown(Keyer(RULES)))

    def test_errors_are_caught_as_the_base(self):
        with self.assertRaises(errors.KeyerError):
            Keyer(RULES).undo()


class ForkTest(LiveTest):
    def test_forks_go_on_by_themselves(self):
        chance = random.Random(23)
        for rules in chance.sample(list(small_rules()), 60):
            keyer, calls = Keyer(rules), []
            for _ in range(6):
                calls.append(some_call(keyer, chance))
                getattr(keyer, calls[-1][0])(*calls[-1][1:])
            other = keyer.fork()
            self.assertIsNot(other, keyer)
            self.assertIs(type(other), Keyer)
            self.assertTrue(other == keyer)
            others = list(calls)
            for one, its in [(other, others), (keyer, calls), (other, others)]:
                its.append(some_call(one, chance))
                getattr(one, its[-1][0])(*its[-1][1:])
                self.assertEqual(shown(keyer), plain_shown(rules, calls))
                self.assertEqual(shown(other), plain_shown(rules, others))

    def test_forks_take_back_the_same_calls(self):
        keyer = told(RULES, [("press", "s", 0), ("wait", 3), ("release", "s", 5)])
        other = keyer.fork()
        for _ in range(3):
            other.undo()
        self.raises(NothingToUndo, other, "undo")
        self.assertEqual(other.log, [])
        self.assertEqual(len(keyer.log), 3)
        keyer.undo()
        self.assertEqual(keyer.log, [("press", "s", 0), ("wait", 3)])
        self.assertEqual(Keyer(RULES).fork().log, [])


class EqualTest(LiveTest):
    def equal(self, one, other, expected):
        self.assertIs(one == other, expected)
        self.assertIs(other == one, expected)
        self.assertIs(one != other, not expected)

    def test_rules(self):
        for rules in small_rules([(2, 2, 3)]):
            self.equal(Keyer(rules), Keyer(tuple(list(rules))), True)
            self.equal(Keyer(rules), Keyer((*rules[:2], 4, *rules[3:])), False)
        for index, item in enumerate([3, 7, 3, 1, "held", True, "stay"]):
            self.equal(Keyer(RULES), Keyer((*RULES[:index], item, *RULES[index + 1:])), False)
        # Rules that send alike are not equal.
        self.equal(Keyer((2, 6, 2, 9, "held", True, "s")), Keyer((2, 6, 2, 9, "press", True, "s")), False)
        self.equal(Keyer(exchanged(exchanged(RULES))), Keyer(RULES), True)

    def test_events_and_ticks(self):
        calls = [("press", "s", 0), ("wait", 5), ("release", "s", 9)]
        keyer = told(RULES, calls)
        self.equal(keyer, told(RULES, [calls[0], calls[2]]), True)
        self.equal(keyer, told(RULES, [("wait", 0), calls[0], calls[2], ("wait", 9)]), True)
        self.equal(keyer, told(RULES, [*calls, ("wait", 10)]), False)
        self.equal(keyer, told(RULES, [calls[0], ("release", "s", 8), ("wait", 9)]), False)
        self.equal(keyer, told(RULES, [("press", "l", 0), ("release", "l", 9)]), False)
        self.equal(keyer, told(RULES, [calls[0], ("wait", 9)]), False)
        self.equal(keyer, Keyer(RULES), False)

    def test_waits_alone(self):
        self.equal(told(RULES, [("wait", 3)]), told(RULES, [("wait", 1), ("wait", 3)]), True)
        self.equal(told(RULES, [("wait", 3)]), told(RULES, [("wait", 2)]), False)
        self.equal(told(RULES, [("wait", 0)]), Keyer(RULES), False)

    def test_the_sequence_of_the_events_of_a_tick(self):
        one = told(RULES, [("press", "s", 0), ("press", "l", 0)])
        self.equal(one, told(RULES, [("press", "l", 0), ("press", "s", 0)]), False)

    def test_calls_that_are_taken_back(self):
        keyer = told(RULES, [("press", "s", 0), ("press", "l", 1)])
        keyer.undo()
        self.equal(keyer, told(RULES, [("press", "s", 0)]), True)

    def test_other_values(self):
        keyer = told(RULES, [("press", "s", 0)])
        for value in [*STRANGE, RULES, keyer.log, "s", 0, Keyer]:
            with self.subTest(value=value):
                self.assertIs(keyer == value, False)
                if not isinstance(value, Clumsy):
                    self.assertIs(value == keyer, False)

    def test_an_equal_keyer_goes_on_alike(self):
        one, other = told(RULES, [("press", "s", 0), ("wait", 3)]), told(RULES, [("press", "s", 0), ("wait", 3)])
        for name, *arguments in [("press", "l", 3), ("wait", 50), ("undo",), ("release", "s", 20)]:
            getattr(one, name)(*arguments)
            self.equal(one, other, False)
            getattr(other, name)(*arguments)
            self.equal(one, other, True)


if __name__ == "__main__":
    unittest.main()
