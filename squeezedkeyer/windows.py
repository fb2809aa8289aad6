"""To where one event of a record can be moved."""

from squeezedkeyer.going import gone, runs_in
from squeezedkeyer.records import check_index, check_record
from squeezedkeyer.rules import check_rules
from squeezedkeyer.runs import check_kinds, spans
from squeezedkeyer.unknown import FAR, Unknown, check_many, known_events


def windows(rules, record, index):
    """The windows (low, high) of an event for the kinds that the record has."""
    check_move(rules, record, index)
    kinds = kinds_sent(rules, record)
    check_many(kinds)
    return windows_of(rules, record, index, kinds)


def windows_for(rules, record, index, kinds):
    """The windows (low, high) of an event for some kinds."""
    check_move(rules, record, index)
    check_kinds(kinds)
    check_many(kinds_sent(rules, record))
    check_many(kinds)
    return windows_of(rules, record, index, kinds)


def check_move(rules, record, index):
    """Check the arguments that both calls have."""
    check_rules(rules)
    check_record(record)
    check_index(record, index)


def kinds_sent(rules, record):
    """The kinds of a record, not tidy."""
    return [(word, times) for _, word, times in runs_in(gone(rules, record).rows)]


def windows_of(rules, record, index, kinds):
    """The windows of an event for kinds of not too many marks."""
    low = record[index - 1][0] if index > 0 else -FAR
    high = record[index + 1][0] if index + 1 < len(record) else FAR
    span = spans(rules)
    times = {"s": (0, span["s"]), "l": (0, span["l"]), "deaf": (0, rules[3])}
    events = known_events(record)
    # The unknown number is the tick of this event.
    events[index] = ((1, 0), *events[index][1:])
    return Unknown(rules, times, events).numbers_for(kinds, [(low, high)])
