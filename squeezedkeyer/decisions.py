"""What a mark hears and remembers, and what its decision brings.

Some levers, those that are down or that are remembered, are told as a string
of them: "", "s", "l" or "sl".
"""

from squeezedkeyer.checks import LEVERS, other_lever

SOME_LEVERS = ("", "s", "l", "sl")


def toggled(levers, lever):
    """Some levers, with this one among them if it was not, or without it."""
    return "".join([each for each in LEVERS if (each in levers) != (each == lever)])


def with_lever(levers, lever):
    """Some levers, and this one."""
    return levers if lever in levers else toggled(levers, lever)


def hearing(rules, kind):
    """How long behind the begin of a mark its hearing comes, None if it has none."""
    s_length, l_length, pause, deaf, remember, again, _ = rules
    if remember == "none" and not again:
        return None
    return deaf if deaf < pause + (s_length if kind == "s" else l_length) else None


def kept_by_hearing(rules, kind, held):
    """What the hearing of a mark remembers."""
    other = other_lever(kind)
    return other if rules[4] == "held" and other in held else ""


def keeps_presses(rules, kind, lever):
    """Whether a mark that listens remembers a lever that is pressed."""
    return rules[5] if lever == kind else rules[4] != "none"


def next_kind(rules, kind, held, kept):
    """The kind of the mark that begins at the decision of a mark, or none: empty."""
    other = other_lever(kind)
    if other in kept:
        return other
    if held == "sl":
        return kind_of_both(rules[6], kind)
    if held != "":
        return held
    return kind if kind in kept else ""


def kind_of_both(both, kind):
    """The kind of the mark that begins behind another one if both levers are down."""
    if both == "turn":
        return other_lever(kind)
    if both == "stay":
        return kind
    return both
