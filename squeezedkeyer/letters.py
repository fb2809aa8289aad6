"""Letters: codes, the reading of marks, and words that are near each other."""

from squeezedkeyer.checks import LEVERS, is_whole_from
from squeezedkeyer.errors import InvalidCode, InvalidGaps, InvalidName, InvalidText
from squeezedkeyer.going import gone, runs_in
from squeezedkeyer.records import check_record
from squeezedkeyer.rules import check_rules
from squeezedkeyer.runs import check_runs, spans

LETTERS = "abcdefghijklmnopqrstuvwxyz0123456789"
MOST_SIGNS = 8
UNKNOWN = "?"


def is_code(value):
    """Whether any value is a code."""
    return has_letters(value) and wrong_letter(value) is None


def check_code(value):
    """Raise InvalidCode unless a value is a code."""
    if not has_letters(value):
        raise InvalidCode(None)
    letter = wrong_letter(value)
    if letter is not None:
        raise InvalidCode(letter)


def has_letters(value):
    """Whether a value is a dict of letters, and not empty."""
    if not isinstance(value, dict) or not value:
        return False
    return all([is_letter(key) for key in value])


def is_letter(value):
    """Whether a value is a letter."""
    return isinstance(value, str) and len(value) == 1 and value in LETTERS


def wrong_letter(code):
    """The least letter with a wrong word, or with that of a lesser letter, or None."""
    seen = {}
    for letter in sorted(code):
        word = code[letter]
        if not is_word(word) or word in seen:
            return letter
        seen[word] = True
    return None


def is_word(value):
    """Whether a value is a word of a code."""
    return has_signs(value) and 1 <= len(value) <= MOST_SIGNS


def has_signs(value):
    """Whether a value is a string of signs, perhaps empty."""
    return isinstance(value, str) and all([sign in LEVERS for sign in value])


def check_gaps(rules, value):
    """Raise InvalidGaps unless a value is gaps for the rules."""
    if not isinstance(value, tuple) or len(value) != 2:
        raise InvalidGaps("gaps are a tuple of two integers")
    letter, word = value
    if not is_whole_from(letter, rules[2] + 1):
        raise InvalidGaps("the gap of a letter is greater than the pause")
    if not is_whole_from(word, letter + 1):
        raise InvalidGaps("the gap of a word is greater than that of a letter")


def read_runs(rules, code, gaps, runs):
    """The reading of the marks of some runs."""
    check_rules(rules)
    check_code(code)
    check_gaps(rules, gaps)
    check_runs(rules, runs)
    return reading(rules, code, gaps, runs)


def read(rules, code, gaps, record):
    """The reading of the marks that a record sends."""
    check_rules(rules)
    check_code(code)
    check_gaps(rules, gaps)
    check_record(record)
    return reading(rules, code, gaps, runs_in(gone(rules, record).rows))


def reading(rules, code, gaps, runs):
    """The reading of the marks of some runs, perhaps of none."""
    letters = {word: letter for letter, word in code.items()}
    span = spans(rules)
    found = []
    signs = ""
    behind = runs[0][0] if runs else 0
    for begin, word, times in runs:
        gap = begin - behind + rules[2]
        if gap >= gaps[0]:
            found.append(letters.get(signs, UNKNOWN))
            signs = ""
        if gap >= gaps[1]:
            found.append(" ")
        # One sign more than a word can have is as good as all of them.
        signs = (signs + word * min(times, MOST_SIGNS + 1))[:MOST_SIGNS + 1]
        behind = begin + span[word] * times
    if signs:
        found.append(letters.get(signs, UNKNOWN))
    return "".join(found)


def broken(code, letter):
    """The texts of two letters that have the word of a letter together."""
    check_code(code)
    if not isinstance(letter, str) or letter not in code:
        raise InvalidName("the code has no such letter")
    word = code[letter]
    return sorted([one + other for one in code for other in code if code[one] + code[other] == word])


def joined_letter(code, text):
    """The letter that has the words of all letters of a text, or None."""
    check_code(code)
    if not isinstance(text, str) or not all([letter in code for letter in text]):
        raise InvalidText("a text of letters of the code is needed")
    word = "".join([code[letter] for letter in text])
    for letter in code:
        if code[letter] == word:
            return letter
    return None


def next_letters(code, word):
    """The letters whose words begin with some signs."""
    check_code(code)
    if not has_signs(word):
        raise InvalidText("a string of the signs s and l is needed")
    return sorted([letter for letter in code if code[letter].startswith(word)])
