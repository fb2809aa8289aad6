"""A console: commands and answers as texts, for a live keyer and a record."""

from squeezedkeyer.errors import InvalidCommand
from squeezedkeyer.live import Keyer
from squeezedkeyer.marks import count_marks, kinds_of
from squeezedkeyer.steady import slack
from squeezedkeyer.steps import count_steps
from squeezedkeyer.texts import format_runs, is_tick_word, parse_record, parse_rules

NONE = "none"
DONE = "ok"
FOR_KEYER = ("undo", "runs", "would", "down", "remembered", "idle", "next", "log")
FOR_RECORD = ("kinds", "count", "slack", "steps")


class Console:
    """Rules with a live keyer, and a record; at first neither."""

    def __init__(self):
        self._rules = None
        self._keyer = None
        self._events = None

    def execute(self, command):
        """Run a command and return its answer."""
        if not isinstance(command, str):
            raise InvalidCommand("a command is a string")
        word, space, text = command.partition(" ")
        if word == "rules" and space != "":
            return self._take_rules(text)
        if word == "record" and space != "":
            self._events = parse_record(text)
            return DONE
        words = command.split(" ")
        if not is_command(words):
            raise InvalidCommand("there is no such command")
        if self._keyer is None:
            raise InvalidCommand("there are no rules yet")
        if word in FOR_RECORD:
            return self._answer_for_record(word)
        if len(words) > 1 or word == "undo":
            self._change(words)
            return DONE
        return self._answer_for_keyer(word)

    def _take_rules(self, text):
        """Take the rules of a text, with a new keyer."""
        rules = parse_rules(text)
        self._keyer = Keyer(rules)
        self._rules = rules
        return DONE

    def _change(self, words):
        """Run a command that changes the keyer."""
        if words[0] == "press":
            self._keyer.press(words[1], int(words[2]))
        elif words[0] == "release":
            self._keyer.release(words[1], int(words[2]))
        elif words[0] == "wait":
            self._keyer.wait(int(words[1]))
        else:
            self._keyer.undo()

    def _answer_for_keyer(self, word):
        """The answer to a command that asks for the keyer."""
        if word == "runs":
            return format_runs(self._keyer.runs) or NONE
        if word == "would":
            return format_runs(self._keyer.would_be()) or NONE
        if word == "down":
            return " ".join(self._keyer.down) or NONE
        if word == "remembered":
            return " ".join(self._keyer.remembered) or NONE
        if word == "idle":
            return "yes" if self._keyer.is_idle else "no"
        if word == "next":
            return number_or_none(self._keyer.next_decision)
        return "; ".join([" ".join([str(part) for part in call]) for call in self._keyer.log]) or NONE

    def _answer_for_record(self, word):
        """The answer to a command that asks for the record."""
        if self._events is None:
            raise InvalidCommand("there is no record yet")
        if word == "kinds":
            kinds = kinds_of(self._rules, self._events)
            return " ".join([f"{name}*{times}" for name, times in kinds]) or NONE
        if word == "count":
            return str(count_marks(self._rules, self._events))
        if word == "slack":
            return number_or_none(slack(self._rules, self._events))
        return str(count_steps(self._rules, self._events))


def is_command(words):
    """Whether some words are a command other than those with a text."""
    if len(words) == 1:
        return words[0] in FOR_KEYER or words[0] in FOR_RECORD
    if words[0] == "wait":
        return len(words) == 2 and is_tick_word(words[1])
    if words[0] not in ("press", "release"):
        return False
    return len(words) == 3 and words[1] != "" and is_tick_word(words[2])


def number_or_none(number):
    """The text of a number, or none for None."""
    return NONE if number is None else str(number)
