"""Rules, records and runs as texts, and back."""

from squeezedkeyer.checks import LEVERS
from squeezedkeyer.errors import InvalidRuns, InvalidSyntax
from squeezedkeyer.records import MOST_EVENTS, check_record
from squeezedkeyer.rules import BOTH_WORDS, MANY_ITEMS, REMEMBER_WORDS, check_rules
from squeezedkeyer.runs import is_run

DIGITS = "0123456789"
MOST_DIGITS = 30
ANSWERS = ("no", "yes")
SIGNS = ("-", "+")
# The least numbers that can stand at the first places of rules.
LEAST = (1, 1, 1, 0)


def format_rules(rules):
    """The text of rules: seven words."""
    check_rules(rules)
    words = [str(number) for number in rules[:len(LEAST)]]
    return " ".join([*words, rules[4], ANSWERS[int(rules[5])], rules[6]])


def parse_rules(text):
    """The rules with a text."""
    words = words_of(text)
    for index, word in enumerate(words):
        if index >= MANY_ITEMS or not can_stand(word, index):
            raise InvalidSyntax(0, index)
    if len(words) < MANY_ITEMS:
        raise InvalidSyntax(0, len(words))
    numbers = [int(word) for word in words[:len(LEAST)]]
    return (*numbers, words[4], words[5] == "yes", words[6])


def can_stand(word, index):
    """Whether a word can stand at a place of rules."""
    if index < len(LEAST):
        return is_number(word) and int(word) >= LEAST[index]
    words = (REMEMBER_WORDS, ANSWERS, BOTH_WORDS)
    return word in words[index - len(LEAST)]


def format_record(record):
    """The text of a record: a word for each event."""
    check_record(record)
    return " ".join([f"{tick}{lever}{SIGNS[int(is_press)]}" for tick, lever, is_press in record])


def parse_record(text):
    """The record with a text."""
    found = []
    down = {"s": False, "l": False}
    words = words_of(text)
    for index, word in enumerate(words):
        if index >= MOST_EVENTS or not is_event_word(word):
            raise InvalidSyntax(0, index)
        tick, lever, is_press = int(word[:-2]), word[-2], word[-1] == "+"
        if down[lever] == is_press or (found and tick < found[-1][0]):
            raise InvalidSyntax(0, index)
        down[lever] = is_press
        found.append((tick, lever, is_press))
    if down["s"] or down["l"]:
        raise InvalidSyntax(0, len(words))
    return found


def format_runs(runs):
    """The text of some runs, with any gaps."""
    if not isinstance(runs, list):
        raise InvalidRuns(None)
    for index, item in enumerate(runs):
        if not is_run(item):
            raise InvalidRuns(index)
    return " ".join([f"{begin}:{word}*{times}" for begin, word, times in runs])


def words_of(text):
    """The words of a text, none of the empty one."""
    if not isinstance(text, str):
        raise InvalidSyntax(None, None)
    return text.split(" ") if text != "" else []


def is_number(word):
    """Whether a word is a number as it stands in texts."""
    if not 1 <= len(word) <= MOST_DIGITS or not all([sign in DIGITS for sign in word]):
        return False
    return word == "0" or word[0] != "0"


def is_tick_word(word):
    """Whether a word is a tick as it stands in texts."""
    if word.startswith("-"):
        return word != "-0" and is_number(word[1:])
    return is_number(word)


def is_event_word(word):
    """Whether a word is an event as it stands in texts."""
    return word[-1:] in SIGNS and word[-2:-1] in LEVERS and is_tick_word(word[:-2])
