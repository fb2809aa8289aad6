"""Marks by rules and events of which one number is unknown: for which numbers are their kinds the wanted ones?

A tick or a time is told as a tuple (factor, rest): the unknown number times the
factor, and the rest. Numbers are told as stretches (low, high), both included.
"""

from squeezedkeyer.checks import LEVERS
from squeezedkeyer.decisions import keeps_presses, kept_by_hearing, next_kind, toggled, with_lever
from squeezedkeyer.errors import TooLarge
from squeezedkeyer.runs import many_kinds
from squeezedkeyer.stretches import together

MOST_MARKS = 100
# Farther than any number plays a part: stretches without an end go so far.
FAR = 10 ** 60


class Unknown:
    """A keyer with an unknown number, and the events that it is told.

    Times are those of the periods, under "s" and "l", and of deaf. Events are
    tuples (tick, lever, is_down), in sequence for each number that is asked for.
    """

    def __init__(self, rules, times, events):
        self.rules = rules
        self.times = times
        self.ticks = [tick for tick, _, _ in events]
        self.levers = [lever for _, lever, _ in events]
        self.many = len(events)
        # What is down ahead of each event, and the next press from each event on.
        self.held = [""]
        for lever in self.levers:
            self.held.append(toggled(self.held[-1], lever))
        self.presses = {lever: [self.many] * (self.many + 1) for lever in LEVERS}
        for index in range(self.many - 1, -1, -1):
            for lever in LEVERS:
                is_press = events[index][1] == lever and events[index][2]
                self.presses[lever][index] = index if is_press else self.presses[lever][index + 1]

    def numbers_for(self, wanted, stretches):
        """The stretches of those numbers for which the marks have the wanted kinds, not too many."""
        kinds = "".join([word * times for word, times in wanted])
        if not self.levers or self.levers[0] != kinds[0]:
            return []
        # All numbers with one begin of a mark, and one event behind it, go on together.
        states = {(self.ticks[0], 1): stretches}
        found = []
        for number, kind in enumerate(kinds):
            following = kinds[number + 1:number + 2]
            behind = {}
            for (begin, index), rows in states.items():
                for piece in self.outcomes(kind, begin, index, together(rows)):
                    self.sort_out(piece, following, behind, found)
            states = behind
        return together(found)

    def sort_out(self, piece, following, behind, found):
        """Put a piece of the numbers to where it goes on, if the next mark is of the following kind."""
        stretch, decision, index, kind = piece
        if kind != "":
            state = (decision, index)
        elif index == self.many:
            if following == "":
                found.append(stretch)
            return
        else:
            kind = self.levers[index]
            state = (self.ticks[index], index + 1)
        if kind == following:
            behind.setdefault(state, []).append(stretch)

    def outcomes(self, kind, begin, index, stretches):
        """What the decision of a mark brings: tuples (stretch, decision, event behind it, next kind)."""
        period, deaf = self.times[kind], self.times["deaf"]
        decision = later(begin, period)
        found = []
        for whole in stretches:
            # A hearing of a keyer that remembers nothing does no harm.
            for part, is_heard in parted(deaf, period, whole):
                heard = self.cut(later(begin, deaf), index, part) if is_heard else [(part, None)]
                for row, first in heard:
                    for stretch, last in self.cut(decision, index, row):
                        kept = "" if first is None else self.memory(kind, first, last)
                        found.append((stretch, decision, last, next_kind(self.rules, kind, self.held[last], kept)))
        return found

    def memory(self, kind, first, last):
        """What a mark remembers that hears the events from the first one on, up to the last one."""
        kept = kept_by_hearing(self.rules, kind, self.held[first])
        for lever in LEVERS:
            if keeps_presses(self.rules, kind, lever) and self.presses[lever][first] < last:
                kept = with_lever(kept, lever)
        return kept

    def cut(self, bound, index, stretch):
        """The pieces of a stretch, each with the first event from an index on that is not ahead of a tick."""
        rest = [stretch]
        found = []
        while rest:
            piece = rest.pop()
            first = self.first_from(bound, index, piece[0])
            last = self.first_from(bound, index, piece[1])
            if first == last:
                found.append((piece, first))
            else:
                # This event is on one side for the least number, and on the other one for the greatest.
                ahead = parted(self.ticks[(first + last) // 2], bound, piece)
                rest.extend([part for part, _ in ahead])
        return found

    def first_from(self, bound, index, number):
        """The first event from an index on that is not ahead of a tick, for this number."""
        tick = worth(bound, number)
        low, high = index, self.many
        while low < high:
            middle = (low + high) // 2
            if worth(self.ticks[middle], number) < tick:
                low = middle + 1
            else:
                high = middle
        return low


def check_many(kinds):
    """Raise TooLarge for kinds of more marks than are looked for."""
    if many_kinds(kinds) > MOST_MARKS:
        raise TooLarge(MOST_MARKS)


def known_events(record):
    """The events of a record, none of which has an unknown tick."""
    return [((0, tick), lever, is_press) for tick, lever, is_press in record]


def worth(time, number):
    """A tick or a time, for this number."""
    return time[0] * number + time[1]


def later(tick, time):
    """A tick that is later by a time."""
    return (tick[0] + time[0], tick[1] + time[1])


def parted(one, other, stretch):
    """The parts of a stretch, each with whether one tick is less than the other one: one or two."""
    low, high = stretch
    factor = one[0] - other[0]
    rest = other[1] - one[1]
    if factor == 0:
        return [(stretch, rest > 0)]
    # The last number of the first part; the border itself is not less.
    border = (rest - 1) // factor if factor > 0 else -rest // -factor
    parts = [((low, min(high, border)), factor > 0), ((max(low, border + 1), high), factor < 0)]
    return [part for part in parts if part[0][0] <= part[0][1]]
