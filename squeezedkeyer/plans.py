"""Plans: how the levers are moved so that given marks are sent, with a slack.

A step leads from one mark to the next: a tuple (kind, next kind, joins, rest).
If joins is True, the next mark may begin at the decision of this one. If rest
is not None, the keyer may be idle instead, and be pressed so many ticks behind
the decision. The next kind is empty behind the last mark.

A link is a tuple (steps, times): these steps, one behind another, so many times.
A piece is a tuple (steps, level): these steps 2 ** level times.
"""

from squeezedkeyer.checks import LEVERS
from squeezedkeyer.costs import NEVER, ahead, behind, joined
from squeezedkeyer.decisions import SOME_LEVERS, toggled
from squeezedkeyer.runs import spans
from squeezedkeyer.ways import many_in, places, ways_of

# What leads from a mark to the idle keyer: no levers, no next kind.
AT_REST = (("",), "")


class Plans:
    """What leads from mark to mark by some rules, with the levers that are down as states."""

    def __init__(self, rules, slack):
        self.rules = rules
        self.slack = slack
        self.periods = spans(rules)
        self.ways = {
            (kind, held): ways_of([rules], kind, held, slack) for kind in LEVERS for held in SOME_LEVERS
        }
        self.tables = {}

    def shape(self):
        """All that costs depend on: the rules and the slack play no part beside it."""
        return tuple(sorted([
            (kind, held, kinds[0], then, many_in(ways[0]))
            for (kind, held), ends in self.ways.items() for (kinds, then), ways in ends.items()
        ]))

    def options(self, held, step):
        """What a step can be: tuples (levers down then, the ways, whether the keyer is pressed)."""
        kind, following, joins, rest = step
        ways = self.ways[(kind, held)]
        found = [(then, ways[(kinds, then)], False) for kinds, then in ways if joins and kinds == (following,)]
        if rest is not None and AT_REST in ways:
            found.append((following, ways[AT_REST], True))
        return found

    def table(self, steps, level):
        """The costs of a piece, from all states to all states."""
        known = self.tables.setdefault(steps, [])
        if not known:
            known.append(self.costs_of(steps))
        while len(known) <= level:
            known.append(joined(known[-1], known[-1]))
        return known[level]

    def costs_of(self, steps):
        """The costs of some steps, one behind another."""
        if len(steps) == 1:
            return [self.costs_from(held, steps[0]) for held in SOME_LEVERS]
        return joined(self.table(steps[:1], 0), self.table(steps[1:], 0))

    def costs_from(self, held, step):
        """The costs of a step from one state on."""
        costs = {then: NEVER for then in SOME_LEVERS}
        for then, ways, is_pressed in self.options(held, step):
            costs[then] = min(costs[then], option_cost(ways, is_pressed))
        return list(costs.values())

    def costs_along(self, kind, pieces):
        """The costs of all states ahead of each piece, and behind the last one."""
        found = [[1 if held == kind else NEVER for held in SOME_LEVERS]]
        for steps, level in pieces:
            found.append(behind(found[-1], self.table(steps, level)))
        return found

    def column(self, pieces):
        """The costs from all states on, through some pieces that end at the idle keyer."""
        found = [0 if held == "" else NEVER for held in SOME_LEVERS]
        for steps, level in reversed(pieces):
            found = ahead(self.table(steps, level), found)
        return found

    def fewest(self, kind, links):
        """The least number of events for a first kind and the links behind it, None if there is no way."""
        cost = self.costs_along(kind, pieces_of(links))[-1][0]
        return cost if cost < NEVER else None

    def record(self, kind, links, begin):
        """A record of as few events as possible, that is pressed at a tick; there is one."""
        pieces = pieces_of(links)
        states = self.states(pieces, self.costs_along(kind, pieces))
        found = [(begin, kind, True)]
        tick = begin
        for index, (steps, level) in enumerate(pieces):
            for row in self.unrolled(steps, level, states[index], states[index + 1]):
                events, tick = self.events_of(row, tick)
                found.extend(events)
        return found

    def states(self, pieces, along):
        """The states ahead of each piece and behind the last one, on one way of the least cost."""
        found = [0]
        for index in range(len(pieces) - 1, -1, -1):
            last = found[-1]
            steps, level = pieces[index]
            costs = [cost + row[last] for cost, row in zip(along[index], self.table(steps, level))]
            found.append(costs.index(along[index + 1][last]))
        return found[::-1]

    def unrolled(self, steps, level, first, last):
        """The steps between two states: tuples (steps, times, first state, last state).

        Where events happen it is one step, once.
        """
        found = []
        rest = [(steps, level, first, last)]
        while rest:
            steps, level, first, last = rest.pop()
            cost = self.table(steps, level)[first][last]
            if cost == 0 or (level == 0 and len(steps) == 1):
                found.append((steps, 1 << level, first, last))
                continue
            one, other = halves(steps, level)
            costs = [a + row[last] for a, row in zip(self.table(*one)[first], self.table(*other))]
            middle = costs.index(cost)
            rest.extend([(*other, middle, last), (*one, first, middle)])
        return found

    def events_of(self, row, tick):
        """The events of an unrolled row that begins at a tick, and the tick behind it."""
        steps, times, first, last = row
        held = SOME_LEVERS[first]
        cost = self.table(steps, 0)[first][last]
        after = tick + times * sum([self.periods[step[0]] for step in steps])
        if cost == 0:
            return [], after
        step = steps[0]
        options = [(way, is_pressed) for then, ways, is_pressed in self.options(held, step) for way in ways
                   if then == SOME_LEVERS[last] and option_cost([way], is_pressed) == cost]
        way, is_pressed = options[0]
        events = self.moves(step[0], held, way, tick)
        if is_pressed:
            after += step[3]
            events.append((after, step[1], True))
        return events, after

    def moves(self, kind, held, way, tick):
        """The events of a way through a mark that begins at a tick, each as early as the slack lets it."""
        found = []
        for (offset, _), string in zip(places([self.rules], kind), way):
            for index, lever in enumerate(string, start=1):
                found.append((tick + offset + 2 * self.slack * index, lever, lever not in held))
                held = toggled(held, lever)
        return found


def option_cost(ways, is_pressed):
    """The number of the events of what a step can be."""
    return many_in(ways[0]) + (1 if is_pressed else 0)


def halves(steps, level):
    """The two pieces of a piece."""
    if level > 0:
        return (steps, level - 1), (steps, level - 1)
    return (steps[:1], 0), (steps[1:], 0)


def links_of(words, within, between):
    """The links behind the first one of the marks of some words, up to the idle keyer.

    Words are tuples (word, times). What comes within them, and between one and
    the next, are tuples (joins, rest) of steps.
    """
    found = []
    for index, (word, times) in enumerate(words):
        if index > 0:
            step = (words[index - 1][0][-1], word[0], *between[index - 1])
            found.append(((step,), 1))
        turn = tuple([(kind, following, *within) for kind, following in zip(word, word[1:] + word[:1])])
        found.append((turn, times - 1))
        found.extend([((step,), 1) for step in turn[:-1]])
    last = (words[-1][0][-1], "", True, None)
    return [*found, ((last,), 1)]


def pieces_of(links):
    """The pieces of some links."""
    return [(steps, level) for steps, times in links for level in range(times.bit_length()) if times >> level & 1]
