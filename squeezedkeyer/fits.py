"""Which numbers of the rules fit several records."""

from squeezedkeyer.checks import is_one_of
from squeezedkeyer.errors import InvalidCases, InvalidName
from squeezedkeyer.records import is_record
from squeezedkeyer.rules import check_rules
from squeezedkeyer.runs import is_kinds
from squeezedkeyer.unknown import FAR, Unknown, check_many, known_events, later

NAMES = ("s", "l", "pause", "deaf")
MOST_CASES = 6


def fitting(rules, name, cases):
    """The stretches (low, high) of the numbers that fit; high is None without an end."""
    return [(low, None if high == FAR else high) for low, high in all_fitting(rules, name, cases)]


def least_fit(rules, name, cases):
    """The least number that fits, None if there is none."""
    found = all_fitting(rules, name, cases)
    return found[0][0] if found else None


def greatest_fit(rules, name, cases):
    """The greatest number that fits, None if there is none or no greatest one."""
    found = all_fitting(rules, name, cases)
    return found[-1][1] if found and found[-1][1] != FAR else None


def all_fitting(rules, name, cases):
    """The stretches of the numbers that fit, up to FAR where there is no end."""
    check_rules(rules)
    if not is_one_of(name, NAMES):
        raise InvalidName("a name is s, l, pause or deaf")
    check_cases(cases)
    times = times_without(rules, name)
    found = [(0 if name == "deaf" else 1, FAR)]
    for record, kinds in cases:
        found = Unknown(rules, times, known_events(record)).numbers_for(kinds, found)
    return found


def check_cases(value):
    """Raise an error unless a value is cases, of not too many marks."""
    if not isinstance(value, list) or not 1 <= len(value) <= MOST_CASES:
        raise InvalidCases(None)
    for index, item in enumerate(value):
        if not isinstance(item, tuple) or len(item) != 2 or not is_record(item[0]) or not is_kinds(item[1]):
            raise InvalidCases(index)
    for _, kinds in value:
        check_many(kinds)


def times_without(rules, name):
    """The times of the rules, with the number of this name unknown."""
    numbers = {other: (1, 0) if other == name else (0, number) for other, number in zip(NAMES, rules)}
    pause = numbers["pause"]
    return {"s": later(numbers["s"], pause), "l": later(numbers["l"], pause), "deaf": numbers["deaf"]}
