"""The rules of a keyer, and which of them send alike."""

from squeezedkeyer.checks import LEVERS, check_lever, check_number_from, is_one_of, is_whole_from, other_lever
from squeezedkeyer.errors import InvalidRules

MANY_ITEMS = 7
REMEMBER_WORDS = ("none", "press", "held")
BOTH_WORDS = ("turn", "stay", "s", "l")


def is_rules(value):
    """Whether any value is rules."""
    return has_form(value) and all(right_items(value))


def check_rules(value):
    """Raise InvalidRules unless a value is rules."""
    if not has_form(value):
        raise InvalidRules(None)
    right = right_items(value)
    if not all(right):
        raise InvalidRules(right.index(False))


def has_form(value):
    """Whether a value is a tuple of as many items as rules have."""
    return isinstance(value, tuple) and len(value) == MANY_ITEMS


def right_items(items):
    """For each of seven items, whether it is right at its place in rules."""
    s_length, l_length, pause, deaf, remember, again, both = items
    return [
        is_whole_from(s_length, 1),
        is_whole_from(l_length, 1),
        is_whole_from(pause, 1),
        is_whole_from(deaf, 0),
        is_one_of(remember, REMEMBER_WORDS),
        isinstance(again, bool),
        is_one_of(both, BOTH_WORDS),
    ]


def period(rules, kind):
    """The length of a mark of this kind plus the pause."""
    check_rules(rules)
    check_lever(kind)
    s_length, l_length, pause = rules[:3]
    return pause + (s_length if kind == "s" else l_length)


def exchanged(rules):
    """The rules with the two levers exchanged."""
    check_rules(rules)
    s_length, l_length, pause, deaf, remember, again, both = rules
    if both in LEVERS:
        both = other_lever(both)
    return (l_length, s_length, pause, deaf, remember, again, both)


def multiplied(rules, by):
    """The rules with all their times multiplied."""
    check_rules(rules)
    check_number_from(by, 1)
    s_length, l_length, pause, deaf, remember, again, both = rules
    return (s_length * by, l_length * by, pause * by, deaf * by, remember, again, both)


def plain(rules):
    """The plain rules, which are equal for all rules that send alike."""
    check_rules(rules)
    s_length, l_length, pause, deaf, remember, again, both = rules
    if deaf >= max(s_length, l_length) + pause or (remember == "none" and not again):
        return (s_length, l_length, pause, 0, "none", False, both)
    if remember == "held":
        both = plain_both(rules)
    return (s_length, l_length, pause, deaf, remember, again, both)


def plain_both(rules):
    """The last item of the plain rules, if "held" plays a part."""
    s_length, l_length, pause, deaf, _, _, both = rules
    # A mark with a hearing remembers the other lever if this is still down at
    # the decision; so the item plays a part only behind marks without one.
    if deaf < min(s_length, l_length) + pause:
        return "turn"
    if both not in LEVERS:
        return both
    # Only the shorter marks have none, and behind them the longer kind is a turn.
    longer = "s" if s_length > l_length else "l"
    return "turn" if both == longer else "stay"


def are_alike(one, other):
    """Whether two rules send the same marks for every record."""
    return plain(one) == plain(other)
