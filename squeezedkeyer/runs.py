"""Runs of marks: their form, their ticks, and tidy lists of them."""

from collections import deque

from squeezedkeyer.checks import is_one_of, is_whole, is_whole_from, other_lever
from squeezedkeyer.errors import InvalidKinds, InvalidRuns

WORDS = ("s", "l", "sl", "ls")
MOST_RUNS = 100


def check_runs(rules, value):
    """Raise InvalidRuns unless a value is a list of runs for the rules."""
    if not is_list_of_some(value):
        raise InvalidRuns(None)
    span = spans(rules)
    earliest = None
    for index, item in enumerate(value):
        if not is_run(item):
            raise InvalidRuns(index)
        begin, word, times = item
        if earliest is not None and begin < earliest:
            raise InvalidRuns(index)
        earliest = begin + span[word] * times


def is_run(value):
    """Whether a value is a run."""
    if not isinstance(value, tuple) or len(value) != 3:
        return False
    begin, word, times = value
    return is_whole(begin) and is_turns(word, times)


def is_turns(word, times):
    """Whether two values are a word of marks and how many times it is sent."""
    return is_one_of(word, WORDS) and is_whole_from(times, 1)


def is_pair(value):
    """Whether a value is an item of kinds."""
    return isinstance(value, tuple) and len(value) == 2 and is_turns(*value)


def is_kinds(value):
    """Whether a value is kinds."""
    return is_list_of_some(value) and all([is_pair(item) for item in value])


def check_kinds(value):
    """Raise InvalidKinds unless a value is kinds."""
    if not is_list_of_some(value):
        raise InvalidKinds(None)
    for index, item in enumerate(value):
        if not is_pair(item):
            raise InvalidKinds(index)


def is_list_of_some(value):
    """Whether a value is a list of as many items as runs and kinds have."""
    return isinstance(value, list) and 1 <= len(value) <= MOST_RUNS


def spans(rules):
    """For each word of a run, the time of its marks, each with a pause."""
    s_length, l_length, pause = rules[:3]
    both = s_length + l_length + 2 * pause
    return {"s": s_length + pause, "l": l_length + pause, "sl": both, "ls": both}


def many_marks(runs):
    """The number of the marks of some runs."""
    return many_kinds([(word, times) for _, word, times in runs])


def many_kinds(pairs):
    """The number of the marks of some kinds."""
    return sum([len(word) * times for word, times in pairs])


def many_begun(rules, runs, tick):
    """How many marks of some runs begin at a tick or before it."""
    span = spans(rules)
    many = 0
    for begin, word, times in runs:
        if begin > tick:
            break
        turns = min(times, (tick - begin) // span[word])
        many += turns * len(word)
        if turns < times:
            # For a word of one mark this is the begin of the next turn, which lies behind.
            second = begin + turns * span[word] + span[word[0]]
            many += 2 if second <= tick else 1
    return many


def mark_with(rules, runs, index):
    """The mark (begin, end, kind) of some runs that has an index."""
    span = spans(rules)
    pause = rules[2]
    left = index
    for begin, word, times in runs:
        turns = left // len(word)
        if turns < times:
            at = begin + turns * span[word]
            kind = word[0]
            if left - turns * len(word) == 1:
                at += span[kind]
                kind = word[1]
            return (at, at + span[kind] - pause, kind)
        left -= len(word) * times
    return None


def tidy_runs(rules, runs):
    """The tidy list of the same marks, with their ticks."""
    span = spans(rules)
    found = []
    for begin, pairs in rows_without_gaps(rules, runs):
        at = begin
        for word, times in tidy(pairs):
            found.append((at, word, times))
            at += span[word] * times
    return found


def rows_without_gaps(rules, runs):
    """The marks that stand one behind another: tuples (begin, list of (word, times))."""
    span = spans(rules)
    found = []
    end = None
    for begin, word, times in runs:
        if begin != end:
            found.append((begin, []))
        found[-1][1].append((word, times))
        end = begin + span[word] * times
    return found


def tidy_kinds(runs):
    """The tidy list of the kinds of some runs."""
    return tidy([(word, times) for _, word, times in runs])


def tidy(pairs):
    """The tidy list of tuples (word, times) that stand one behind another."""
    # Marks of one kind, or marks that take turns: (first kind, number, takes turns).
    rest = deque([(word[0], len(word) * times, len(word) == 2) for word, times in pairs])
    found = []
    while rest:
        word, times = first_pair(rest)
        found.append((word, times))
        drop(rest, len(word) * times)
    return found


def first_pair(rest):
    """The first tuple of the tidy list of what is left."""
    kind = rest[0][0]
    same = many_of_one_kind(rest)
    if same > 1:
        return (kind, same)
    turning = many_in_turn(rest)
    if turning > 3:
        return (kind + other_lever(kind), turning // 2)
    return (kind, 1)


def many_of_one_kind(rest):
    """The number of the first marks that have one kind."""
    kind = rest[0][0]
    many = 0
    for first, number, takes_turns in rest:
        if first != kind:
            break
        if takes_turns and number > 1:
            return many + 1
        many += number
    return many


def many_in_turn(rest):
    """The number of the first marks that take turns."""
    expected = rest[0][0]
    many = 0
    for first, number, takes_turns in rest:
        if first != expected:
            break
        if not takes_turns and number > 1:
            return many + 1
        many += number
        if number % 2 == 1:
            expected = other_lever(expected)
    return many


def drop(rest, many):
    """Take so many marks off the front of what is left."""
    lacking = many
    while lacking > 0:
        kind, number, takes_turns = rest.popleft()
        if number > lacking:
            if takes_turns and lacking % 2 == 1:
                kind = other_lever(kind)
            rest.appendleft((kind, number - lacking, takes_turns))
        lacking -= number
