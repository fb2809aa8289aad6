"""How far off the events of a record may be."""

from squeezedkeyer.going import gone
from squeezedkeyer.records import check_record, is_event
from squeezedkeyer.rules import check_rules


def slack(rules, record):
    """How far off all events may be at once, None for the record without events."""
    check_rules(rules)
    check_record(record)
    return slack_of(rules, record) if record else None


def steadier(rules, record):
    """A record with the same words of steps, and with the greatest slack."""
    check_rules(rules)
    check_record(record)
    if not record:
        return []
    blocks = blocks_of(rules, record)
    greatest = min([greatest_for(place) for _, places, _ in blocks for place in places])
    ticks = []
    begin = record[0][0]
    for old, places, idle in blocks:
        ticks.append(begin)
        for low, _, many in places:
            ticks.extend([begin - old + low + 2 * greatest * number for number in range(1, many + 1)])
        begin += idle - old + 2 * greatest
    return [(tick, lever, is_press) for tick, (_, lever, is_press) in zip(ticks, record)]


def upset(rules, record):
    """The events of a record, moved by at most one tick more than the slack, with other steps."""
    check_rules(rules)
    check_record(record)
    if not record:
        return None
    by = slack_of(rules, record) + 1
    one, other, _ = tightest(distances(rules, record), record)
    if one + 1 == other:
        # Those ahead come earlier and those behind come later, so that only two change places.
        moves = [-by] * one + [by, -by] + [by] * (len(record) - other - 1)
    else:
        moves = [by if index == one else -by if index == other else 0 for index in range(len(record))]
    return [(tick + move, lever, is_press) for move, (tick, lever, is_press) in zip(moves, record)]


def shows_upset(rules, record, value):
    """Whether any value is a list of the events, off by at most one tick more than the slack, with other steps."""
    check_rules(rules)
    check_record(record)
    if not record or not isinstance(value, list) or len(value) != len(record):
        return False
    most = slack_of(rules, record) + 1
    if not all([is_moved(event, item, most) for event, item in zip(record, value)]):
        return False
    found = sorted(value, key=lambda event: event[0])
    if [event[1:] for event in found] != [event[1:] for event in record]:
        return True
    return not all([
        found[other][0] - found[one][0] >= least for one, other, least in distances(rules, record)
    ])


def is_moved(event, value, most):
    """Whether a value is an event with a tick that is at most so much off."""
    return is_event(value) and value[1:] == event[1:] and abs(value[0] - event[0]) <= most


def slack_of(rules, record):
    """The slack of a record that has events."""
    return leeway(tightest(distances(rules, record), record), record)


def tightest(found, record):
    """The first one of some distances that leaves the least leeway."""
    return min(found, key=lambda distance: leeway(distance, record))


def leeway(distance, record):
    """By how much both events of a distance may be off."""
    one, other, least = distance
    return (record[other][0] - record[one][0] - least) // 2


def distances(rules, record):
    """What keeps the words of the steps: tuples (one, other, least).

    The tick of the other event, less that of the one, is at least the least
    number. Neighbours come first.
    """
    found = [(index - 1, index, 0) for index in range(1, len(record))]
    first = 0
    for begin, places, idle in blocks_of(rules, record):
        index = first
        for low, high, many in places:
            for _ in range(many):
                index += 1
                found.extend([(first, index, low - begin), (index, first, begin - high)])
        if index + 1 < len(record):
            found.append((first, index + 1, idle - begin))
        first = index + 1
    return found


def blocks_of(rules, record):
    """What happens from a press of the idle keyer until it is idle: tuples (press, places, idle).

    Press and idle are ticks. A place is a tuple (low, high, many): so many
    events happen from the tick low to the tick high, between which the clock
    does nothing ahead of them. There is none without events.
    """
    found = []
    places = []
    begin = low = None
    many = 0
    for tick, parts, _, _ in gone(rules, record).rows:
        what = parts[0][1].split(" ")[0]
        if what in ("press", "release") and begin is None:
            begin = low = tick
        elif what in ("press", "release"):
            many += 1
        elif what != "remember":
            if many > 0:
                places.append((low, tick - 1, many))
            many = 0
            # Behind turns that are told at once a mark begins, ahead of the next event.
            low = tick
        if what == "idle":
            found.append((begin, places, tick))
            places = []
            begin = None
    return found


def greatest_for(place):
    """The greatest slack that the events of a place can have."""
    # Each event, and the two ends, are off by the slack.
    low, high, many = place
    return (high - low) // (2 * (many + 1))
