"""Records of the events of the two levers."""

from squeezedkeyer.checks import check_lever, check_number_from, check_tick, is_lever, is_whole, other_lever
from squeezedkeyer.errors import InvalidNumber, InvalidRecord, InvalidTick, TooLarge

MOST_EVENTS = 200


def is_record(value):
    """Whether any value is a record."""
    return has_form(value) and first_fault(value) is None


def check_record(value):
    """Raise InvalidRecord unless a value is a record."""
    if not has_form(value):
        raise InvalidRecord(None)
    index = first_fault(value)
    if index is not None:
        raise InvalidRecord(index)


def has_form(value):
    """Whether a value is a list of not too many items."""
    return isinstance(value, list) and len(value) <= MOST_EVENTS


def first_fault(items):
    """The index at which a list stops to be a record, None for a record.

    It is the number of the items if only a release lacks at the end.
    """
    down = {"s": False, "l": False}
    for index, item in enumerate(items):
        if not is_event(item):
            return index
        tick, lever, is_press = item
        if index > 0 and tick < items[index - 1][0]:
            return index
        if down[lever] == is_press:
            return index
        down[lever] = is_press
    if down["s"] or down["l"]:
        return len(items)
    return None


def is_event(value):
    """Whether a value is an event."""
    if not isinstance(value, tuple) or len(value) != 3:
        return False
    tick, lever, is_press = value
    return is_whole(tick) and is_lever(lever) and isinstance(is_press, bool)


def is_down(record, lever, tick):
    """Whether the lever is down behind the events of the tick."""
    check_record(record)
    check_lever(lever)
    check_tick(tick)
    down = False
    for at, name, is_press in record:
        if name == lever and at <= tick:
            down = is_press
    return down


def down_stretches(record, lever):
    """The ticks (press, release) between which the lever is down."""
    check_record(record)
    check_lever(lever)
    ticks = [at for at, name, _ in record if name == lever]
    return list(zip(ticks[::2], ticks[1::2]))


def shifted(record, by):
    """The record with all ticks later by so much."""
    check_record(record)
    if not is_whole(by):
        raise InvalidNumber("a record is shifted by an integer")
    return [(tick + by, lever, is_press) for tick, lever, is_press in record]


def multiplied(record, by):
    """The record with all ticks multiplied."""
    check_record(record)
    check_number_from(by, 1)
    return [(tick * by, lever, is_press) for tick, lever, is_press in record]


def exchanged(record):
    """The record with the two levers exchanged."""
    check_record(record)
    return [(tick, other_lever(lever), is_press) for tick, lever, is_press in record]


def joined(one, other):
    """The events of one record, then those of the other."""
    check_record(one)
    check_record(other)
    if one and other and other[0][0] < one[-1][0]:
        raise InvalidTick("the second record begins ahead of the end of the first one")
    if len(one) + len(other) > MOST_EVENTS:
        raise TooLarge(MOST_EVENTS)
    return [*one, *other]


def moved(record, index, tick):
    """The record in which the event with this index has another tick."""
    check_record(record)
    check_index(record, index)
    check_tick(tick)
    if index > 0 and tick < record[index - 1][0]:
        raise InvalidTick("the tick is less than that of the event before")
    if index + 1 < len(record) and tick > record[index + 1][0]:
        raise InvalidTick("the tick is greater than that of the event behind")
    _, lever, is_press = record[index]
    return [*record[:index], (tick, lever, is_press), *record[index + 1:]]


def check_index(record, index):
    """Raise InvalidNumber unless a record has an event with this index."""
    if not is_whole(index) or not 0 <= index < len(record):
        raise InvalidNumber("the record has no event with this index")
