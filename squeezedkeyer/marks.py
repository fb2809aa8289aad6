"""The marks that are sent for a record."""

from squeezedkeyer.checks import check_tick, is_whole_from
from squeezedkeyer.errors import InvalidNumber
from squeezedkeyer.going import rows_of, runs_in
from squeezedkeyer.runs import many_begun, many_marks, mark_with, tidy_kinds, tidy_runs


def runs_of(rules, record):
    """The tidy list of the runs of the marks."""
    return tidy_runs(rules, runs_in(rows_of(rules, record)))


def kinds_of(rules, record):
    """The tidy list of the kinds of the marks."""
    return tidy_kinds(runs_in(rows_of(rules, record)))


def count_marks(rules, record):
    """The number of the marks."""
    return many_marks(runs_in(rows_of(rules, record)))


def idle_from(rules, record):
    """The tick of the last decision, None without marks."""
    rows = rows_of(rules, record)
    ticks = [tick for tick, parts, _, _ in rows if parts[0][1] == "idle"]
    return ticks[-1] if ticks else None


def nth_mark(rules, record, index):
    """The mark (begin, end, kind) with an index."""
    runs = runs_in(rows_of(rules, record))
    if not is_whole_from(index, 0) or index >= many_marks(runs):
        raise InvalidNumber("there is no mark with this index")
    return mark_with(rules, runs, index)


def mark_at(rules, record, tick):
    """The mark that is sent at a tick, None if there is none."""
    runs = runs_in(rows_of(rules, record))
    check_tick(tick)
    many = many_begun(rules, runs, tick)
    if many == 0:
        return None
    mark = mark_with(rules, runs, many - 1)
    return mark if tick < mark[1] else None


def count_begun(rules, record, tick):
    """How many marks begin at a tick or before it."""
    runs = runs_in(rows_of(rules, record))
    check_tick(tick)
    return many_begun(rules, runs, tick)
