"""What the levers can have done, by the marks that were heard."""

from squeezedkeyer.checks import check_lever, check_number_from, check_tick
from squeezedkeyer.costs import NEVER
from squeezedkeyer.decisions import SOME_LEVERS, toggled
from squeezedkeyer.errors import Impossible, TooLarge
from squeezedkeyer.plans import Plans, links_of, option_cost, pieces_of
from squeezedkeyer.records import MOST_EVENTS
from squeezedkeyer.rules import BOTH_WORDS, REMEMBER_WORDS, check_rules, plain
from squeezedkeyer.runs import check_runs, spans
from squeezedkeyer.stretches import together
from squeezedkeyer.ways import MOST_USEFUL, places


def is_possible(rules, runs, slack):
    """Whether a record with this slack has just these marks."""
    check_heard(rules, runs, slack)
    return fewest_heard(Plans(rules, slack), runs) is not None


def fewest_for_runs(rules, runs, slack):
    """The least number of events of a record with these marks, None if there is none."""
    check_heard(rules, runs, slack)
    return fewest_heard(Plans(rules, slack), runs)


def record_for(rules, runs, slack):
    """A record with these marks, and with as few events as possible."""
    check_heard(rules, runs, slack)
    plans = Plans(rules, slack)
    if possible_fewest(plans, runs) > MOST_EVENTS:
        raise TooLarge(MOST_EVENTS)
    return plans.record(runs[0][1][0], links_heard(plans, runs), runs[0][0])


def fewest_down_at(rules, runs, slack, lever, tick):
    """Whether a lever is down at a tick in all, in none or in some of the shortest records: None."""
    check_heard(rules, runs, slack)
    check_lever(lever)
    check_tick(tick)
    plans = Plans(rules, slack)
    fewest = possible_fewest(plans, runs)
    ahead, marks, behind = around(rules, runs, tick)
    if not marks:
        return False
    found = [lever in held for held in held_at(plans, (ahead, marks[0], behind), fewest, tick)]
    if False not in found:
        return True
    return None if True in found else False


def rules_for(s, l, pause, runs, slack, events):
    """The plain rules by which at most so many events can have sent the marks."""
    for number in (s, l, pause):
        check_number_from(number, 1)
    check_runs((s, l, pause), runs)
    check_number_from(slack, 0)
    check_number_from(events, 0)
    known = {}
    found = []
    for remember, again, both in last_items():
        fitting = []
        for low, high in deaf_stretches(s + pause, l + pause, slack):
            rules = (s, l, pause, low, remember, again, both)
            if plain(rules) == rules and known_fewest(known, Plans(rules, slack), runs) <= events:
                fitting.append((low, high))
        found.extend([(remember, again, both, low, high) for low, high in together(fitting)])
    return found


def check_heard(rules, runs, slack):
    """Check the arguments that most calls have."""
    check_rules(rules)
    check_runs(rules, runs)
    check_number_from(slack, 0)


def fewest_heard(plans, runs):
    """The least number of events of a record with these marks, None if there is none."""
    return plans.fewest(runs[0][1][0], links_heard(plans, runs))


def possible_fewest(plans, runs):
    """The least number of events of a record with these marks; there must be one."""
    fewest = fewest_heard(plans, runs)
    if fewest is None:
        raise Impossible("no record with this slack has these marks")
    return fewest


def links_heard(plans, runs):
    """The links for marks with their ticks."""
    between = [meeting(plans, one, other) for one, other in zip(runs, runs[1:])]
    return links_of([(word, times) for _, word, times in runs], joint(0, plans.slack), between)


def meeting(plans, one, other):
    """What comes between two runs."""
    begin, word, times = one
    return joint(other[0] - begin - plans.periods[word] * times, plans.slack)


def joint(rest, slack):
    """What comes between two marks with this time from the decision to the next begin: (joins, rest)."""
    return (rest == 0, rest if rest >= 2 * slack else None)


def around(rules, runs, tick):
    """The runs ahead of the mark around a tick, a list of it as a run, and the runs behind it.

    A mark is around all ticks from its begin up to its decision; the list is
    empty if there is none.
    """
    span = spans(rules)
    for index, (begin, word, times) in enumerate(runs):
        turn = (tick - begin) // span[word]
        if 0 <= turn < times:
            at = begin + turn * span[word]
            marks = single_marks(span, at, word)
            place = 0 if tick < at + span[word[0]] else 1
            ahead = [(begin, word, turn)] if turn > 0 else []
            behind = [(at + span[word], word, times - turn - 1)] if turn + 1 < times else []
            ahead = runs[:index] + ahead + marks[:place]
            return ahead, marks[place:place + 1], marks[place + 1:] + behind + runs[index + 1:]
    return runs, [], []


def single_marks(span, begin, word):
    """The marks of a word, as a run each."""
    found = [(begin, word[0], 1)]
    if len(word) == 2:
        found.append((begin + span[word[0]], word[1], 1))
    return found


def held_at(plans, parts, fewest, tick):
    """The levers that can be down at a tick, in all records of so few events."""
    ahead, mark, behind = parts
    begin, kind, _ = mark
    row = costs_ahead(plans, [*ahead, mark])
    step = (kind, "", True, None)
    column = [0] + [NEVER] * (len(SOME_LEVERS) - 1)
    if behind:
        step = (kind, behind[0][1][0], *meeting(plans, mark, behind[0]))
        column = plans.column(pieces_of(links_heard(plans, behind)))
    costs = {held: cost for held, cost in zip(SOME_LEVERS, column)}
    found = []
    for held, cost in zip(SOME_LEVERS, row):
        for then, ways, is_pressed in plans.options(held, step):
            if cost + option_cost(ways, is_pressed) + costs[then] == fewest:
                for way in ways:
                    found.extend(held_within(plans, (kind, held, way), tick - begin))
    return found


def costs_ahead(plans, runs):
    """The costs of all states at the begin of the last one of some runs, a single mark."""
    links = links_heard(plans, runs)[:-1]
    return plans.costs_along(runs[0][1][0], pieces_of(links))[-1]


def held_within(plans, move, offset):
    """The levers that can be down so many ticks behind the begin of a mark, on one way through it."""
    kind, held, way = move
    for (low, width), string in zip(places([plans.rules], kind), way):
        if offset < low + width:
            many = len(string)
            # The events up to this one as early as they can be, those behind it as late.
            return [
                held_behind(held, string[:number]) for number in range(many + 1)
                if (number == 0 or low + 2 * plans.slack * number <= offset)
                and (number == many or low + width - 1 - 2 * plans.slack * (many - number) > offset)
            ]
        held = held_behind(held, string)
    return []


def held_behind(held, string):
    """The levers that are down when these are moved."""
    for lever in string:
        held = toggled(held, lever)
    return held


def last_items():
    """All (remember, again, both) that rules can have, ascending."""
    return [
        (remember, again, both) for remember in sorted(REMEMBER_WORDS) for again in (False, True)
        for both in sorted(BOTH_WORDS)
    ]


def deaf_stretches(one, other, slack):
    """The numbers deaf for two periods, as tuples (low, high) within which the same ways are open."""
    rooms = [2 * slack * (many + 1) for many in range(1, MOST_USEFUL + 1)]
    lows = [0, 1, one, other] + [least + 1 for least in rooms]
    lows = lows + [period - least for period in (one, other) for least in rooms]
    last = max(one, other)
    lows = sorted(set([low for low in lows if 0 <= low < last]))
    return [(low, behind - 1) for low, behind in zip(lows, lows[1:] + [last])]


def known_fewest(known, plans, runs):
    """The least number of events for the marks, from what is known, or NEVER."""
    # Many rules cost the same everywhere, and long runs take their time.
    shape = plans.shape()
    if shape not in known:
        fewest = fewest_heard(plans, runs)
        known[shape] = NEVER if fewest is None else fewest
    return known[shape]
