"""All that happens for a record, step by step."""

from squeezedkeyer.checks import is_one_of
from squeezedkeyer.errors import InvalidName, TooLarge
from squeezedkeyer.going import rows_of

MOST_STEPS = 1000
STEP_WORDS = (
    "press s", "press l", "release s", "release l", "begin s", "begin l", "hear", "remember s", "remember l", "idle",
)


def steps(rules, record):
    """The steps (tick, word) of a record."""
    rows = rows_of(rules, record)
    if many_steps(rows) > MOST_STEPS:
        raise TooLarge(MOST_STEPS)
    found = []
    for tick, parts, times, length in rows:
        for turn in range(times):
            found.extend([(tick + turn * length + offset, word) for offset, word in parts])
    return found


def count_steps(rules, record):
    """The number of the steps of a record."""
    return many_steps(rows_of(rules, record))


def many_steps(rows):
    """The number of the steps of some rows."""
    return sum([len(parts) * times for _, parts, times, _ in rows])


def count_word(rules, record, word):
    """The number of the steps of a record that have a word."""
    rows = rows_of(rules, record)
    if not is_one_of(word, STEP_WORDS):
        raise InvalidName("this is no word of steps")
    return sum([times for _, parts, times, _ in rows for _, name in parts if name == word])
