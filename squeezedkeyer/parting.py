"""Records for which two rules send unlike marks."""

from squeezedkeyer.checks import LEVERS
from squeezedkeyer.decisions import toggled
from squeezedkeyer.going import gone, runs_in
from squeezedkeyer.records import MOST_EVENTS, is_record
from squeezedkeyer.rules import are_alike, check_rules
from squeezedkeyer.runs import many_marks, mark_with, spans, tidy_kinds, tidy_runs
from squeezedkeyer.ways import many_in, places, ways_of


def parting_record(one, other):
    """A record of as few events as possible that parts two rules, None for alike rules."""
    if are_alike(one, other):
        return None
    for place, kind in enumerate(LEVERS):
        if one[place] != other[place]:
            return [(0, kind, True), (0, kind, False)]
    if one[2] != other[2]:
        # Only by the lesser pause a second mark begins ahead of the release.
        return [(0, "s", True), (min(spans(one)["s"], spans(other)["s"]), "s", False)]
    return record_of([one, other], parting_moves([one, other]))


def fewest_parting(one, other):
    """The least number of events that parts two rules, None for alike rules."""
    record = parting_record(one, other)
    return None if record is None else len(record)


def shows_parting(one, other, value):
    """Whether any value is a record that parts two rules."""
    check_rules(one)
    check_rules(other)
    return is_record(value) and has_unlike_marks(one, other, value)


def parting_moves(both):
    """The shortest way to a decision that two rules take otherwise: tuples (kind, levers down, way).

    Each tuple tells a mark, with what is down at its begin, and what is moved
    in it. Up to the end both rules send the same marks.
    """
    found = {(kind, kind): [] for kind in LEVERS}
    rest = list(found)
    ends = []
    while rest:
        kind, held = rest.pop()
        for (kinds, then), ways in ways_of(both, kind, held, 0).items():
            moves = [*found[(kind, held)], (kind, held, ways[0])]
            behind = (kinds[0], then)
            if kinds[0] != kinds[1]:
                ends.append((many_moves(moves) + len(then), moves))
            elif kinds[0] != "" and (behind not in found or many_moves(moves) < many_moves(found[behind])):
                found[behind] = moves
                rest.append(behind)
    return min(ends, key=lambda end: end[0])[1]


def many_moves(moves):
    """The number of events of some moves."""
    return sum([many_in(way) for _, _, way in moves])


def record_of(both, moves):
    """The record of some moves from a press on; at the end all levers are released."""
    held = moves[0][0]
    found = [(0, held, True)]
    tick = 0
    for kind, _, way in moves:
        for (offset, _), string in zip(places(both, kind), way):
            for lever in string:
                found.append((tick + offset, lever, lever not in held))
                held = toggled(held, lever)
        tick += spans(both[0])[kind]
    return found + [(tick, lever, False) for lever in held]


def has_unlike_marks(one, other, record):
    """Whether two rules send unlike marks for a record."""
    first = runs_in(gone(one, record).rows)
    second = runs_in(gone(other, record).rows)
    if tidy_kinds(first) != tidy_kinds(second):
        return True
    many = many_marks(first)
    if many <= MOST_EVENTS:
        numbers = list(range(many))
        return [mark_with(one, first, k) for k in numbers] != [mark_with(other, second, k) for k in numbers]
    # Not each of so many marks has a press of its own, so the pause is heard, too.
    if one[2] != other[2]:
        return True
    used = "".join([word for _, word, _ in first])
    if [spans(one)[kind] for kind in used] != [spans(other)[kind] for kind in used]:
        return True
    return tidy_runs(one, first) != tidy_runs(other, second)
