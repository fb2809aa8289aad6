"""In which ways the levers can be moved during one mark, and to what end."""

from squeezedkeyer.checks import LEVERS
from squeezedkeyer.decisions import hearing, keeps_presses, kept_by_hearing, next_kind, toggled, with_lever
from squeezedkeyer.runs import spans

# More events than this in one place are of no use: the longest one of the
# shortest ways lets go of both levers and touches one of them again.
MOST_USEFUL = 4
# With slack 0 any number of events can lie in one place; the shortest ways
# pass nothing twice, and so end by themselves.
NO_LIMIT = 1000


def places(several, kind):
    """Where the events of a mark lie: tuples (offset, width), parted by its hearings.

    The several rules send marks of the same periods, but can hear at other ticks.
    """
    period = spans(several[0])[kind]
    hearings = [hearing(rules, kind) for rules in several]
    offsets = sorted(set([0] + [offset for offset in hearings if offset is not None]))
    return [(low, high - low) for low, high in zip(offsets, offsets[1:] + [period])]


def widths(rules):
    """The widths of all places of the marks by some rules."""
    return [width for kind in LEVERS for _, width in places([rules], kind)]


def room(width, slack):
    """How many events can lie in a place so wide, each one off by the slack."""
    # Between what bounds the place and its events, two things each, lies
    # twice the slack, and one tick more ahead of the clock.
    if slack == 0:
        return NO_LIMIT
    return max(0, (width - 1) // (2 * slack) - 1)


def slacks(width):
    """The slacks from which on fewer useful events have room in a place so wide."""
    return [(width - 1) // (2 * (many + 1)) for many in range(1, MOST_USEFUL + 1)]


def many_in(way):
    """The number of the events of a way."""
    return len("".join(way))


def ways_of(several, kind, held, slack):
    """Where the events of a mark lead: {(next kinds, levers down then): all shortest ways}.

    A way has for each place of the mark a string of the levers that are moved
    there, one behind another. The next kinds are told for each of the rules.
    """
    found = {(held, ("",) * len(several)): [()]}
    for offset, width in places(several, kind):
        found = ways_behind(several, kind, found, offset, room(width, slack))
    ends = {}
    for (levers, kepts), ways in found.items():
        kinds = tuple([next_kind(rules, kind, levers, kept) for rules, kept in zip(several, kepts)])
        add_shortest(ends, (kinds, levers), ways)
    return ends


def ways_behind(several, kind, found, offset, most):
    """The shortest ways behind one more place, by the levers that are down and those remembered."""
    behind = {}
    for (held, kepts), ways in found.items():
        state = (held, at_hearing(several, kind, held, kepts, offset))
        for end, strings in strings_in(several, kind, state, offset, most).items():
            add_shortest(behind, end, [(*way, string) for way in ways for string in strings])
    return behind


def at_hearing(several, kind, held, kepts, offset):
    """What is remembered behind the clock of an offset."""
    return tuple([
        kept_by_hearing(rules, kind, held) if hearing(rules, kind) == offset else kept
        for rules, kept in zip(several, kepts)
    ])


def strings_in(several, kind, state, offset, most):
    """All shortest strings of levers that are moved in one place, by where they lead."""
    found = {state: [""]}
    edge = [state]
    for _ in range(most):
        if not edge:
            break
        behind = {}
        for held, kepts in edge:
            for lever in LEVERS:
                there = (toggled(held, lever), behind_event(several, kind, held, kepts, offset, lever))
                if there not in found:
                    behind.setdefault(there, []).extend([string + lever for string in found[(held, kepts)]])
        found.update(behind)
        edge = list(behind)
    return found


def behind_event(several, kind, held, kepts, offset, lever):
    """What is remembered behind the event of a lever, by each of the rules."""
    if lever in held:
        return kepts
    return tuple([
        with_lever(kept, lever) if listens(rules, kind, offset) and keeps_presses(rules, kind, lever) else kept
        for rules, kept in zip(several, kepts)
    ])


def listens(rules, kind, offset):
    """Whether a mark remembers levers behind the clock of an offset."""
    begun = hearing(rules, kind)
    return begun is not None and begun <= offset


def add_shortest(found, key, ways):
    """Add ways by a key, if there are none yet that are shorter."""
    many = many_in(ways[0])
    known = many_in(found[key][0]) if key in found else many
    if key not in found or many < known:
        found[key] = list(ways)
    elif many == known:
        found[key].extend(ways)
