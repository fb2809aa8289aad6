"""How a keyer goes: what the clock does, and what each event brings."""

from squeezedkeyer.decisions import hearing, keeps_presses, kept_by_hearing, next_kind, toggled, with_lever
from squeezedkeyer.records import check_record
from squeezedkeyer.rules import check_rules


class Going:
    """A keyer on its way, that is told the ticks and the events.

    rows are all that has happened so far, in its sequence. A row is a tuple
    (tick, parts, times, length): its parts, tuples (offset, word) of steps,
    happen so many times, from the tick on, each time so many ticks later.
    """

    def __init__(self, rules):
        s_length, l_length, pause = rules[:3]
        self.rules = rules
        self.periods = {"s": s_length + pause, "l": l_length + pause}
        self.hearings = {"s": hearing(rules, "s"), "l": hearing(rules, "l")}
        # The levers that are down, and those that the present mark remembers.
        self.held = ""
        self.kept = ""
        # The present mark: its kind is empty while the keyer is idle.
        self.kind = ""
        self.begun = 0
        self.listens = False
        # Where the marks stand that have begun since the last event.
        self.turns = {}
        self.rows = []

    def go_to(self, tick):
        """Let the clock go on to a tick, with what it does at this tick."""
        self.turns = {}
        while self.kind != "" and self.clock_at() <= tick:
            if self.awaits_hearing():
                self.hear()
            else:
                self.decide(tick)

    def finish(self):
        """Let the clock go on until the keyer is idle; all levers are up."""
        while self.kind != "":
            self.go_to(self.clock_at())

    def happen(self, tick, lever, is_press):
        """Let an event happen; the clock has been at its tick."""
        self.held = toggled(self.held, lever)
        if not is_press:
            self.tell(tick, "release " + lever)
            return
        self.tell(tick, "press " + lever)
        if self.kind == "":
            self.begin(lever, tick)
        elif self.listens and keeps_presses(self.rules, self.kind, lever):
            self.keep(lever, tick)

    def tell(self, tick, word):
        """Put down a step."""
        self.rows.append((tick, ((0, word),), 1, 0))

    def decision_at(self):
        """The tick of the decision of the present mark."""
        return self.begun + self.periods[self.kind]

    def clock_at(self):
        """The next tick at which the clock does something."""
        if self.awaits_hearing():
            return self.begun + self.hearings[self.kind]
        return self.decision_at()

    def awaits_hearing(self):
        """Whether the hearing of the present mark is still to come."""
        return self.hearings[self.kind] is not None and not self.listens

    def keep(self, lever, tick):
        """Remember a lever, unless it is remembered already."""
        if lever not in self.kept:
            self.kept = with_lever(self.kept, lever)
            self.tell(tick, "remember " + lever)

    def begin(self, kind, tick):
        """Begin a mark."""
        self.tell(tick, "begin " + kind)
        self.kind = kind
        self.begun = tick
        self.listens = False
        self.kept = ""
        if self.hearings[kind] == 0:
            self.listen(tick)

    def hear(self):
        """Do the hearing of the present mark at the clock."""
        tick = self.clock_at()
        self.tell(tick, "hear")
        self.listen(tick)

    def listen(self, tick):
        """Remember levers from now on, and the other one if it is down now."""
        self.listens = True
        for lever in kept_by_hearing(self.rules, self.kind, self.held):
            self.keep(lever, tick)

    def decide(self, last):
        """Do the decision of the present mark; no event comes until the last tick."""
        tick = self.decision_at()
        kind = next_kind(self.rules, self.kind, self.held, self.kept)
        if kind != "":
            self.begin(kind, self.leap(kind, tick, last))
            return
        # Nothing is remembered here, else a mark would begin.
        self.tell(tick, "idle")
        self.kind = ""

    def leap(self, kind, tick, last):
        """The tick at which this mark begins, when all turns ahead of it are told at once.

        What has gone from the begin of such a mark to that of the next one,
        without an event, goes again and again until an event comes.
        """
        if kind not in self.turns:
            self.turns[kind] = (tick, len(self.rows))
            return tick
        first, at = self.turns[kind]
        length = tick - first
        times = (last - tick) // length
        self.turns = {}
        if times > 0:
            parts = [(row[0] - first, row[1][0][1]) for row in self.rows[at:]]
            self.rows.append((tick, tuple(parts), times, length))
        return tick + times * length


def gone(rules, record):
    """The keyer behind all events of a record, idle again."""
    going = Going(rules)
    for tick, lever, is_press in record:
        going.go_to(tick)
        going.happen(tick, lever, is_press)
    going.finish()
    return going


def rows_of(rules, record):
    """All that happens for a record, as rows; wrong arguments are refused."""
    check_rules(rules)
    check_record(record)
    return gone(rules, record).rows


def runs_in(rows):
    """The runs of the marks that begin in some rows, not tidy."""
    found = []
    for tick, parts, times, _ in rows:
        kinds = [word[-1] for _, word in parts if word.startswith("begin ")]
        if kinds:
            found.append((tick, "".join(kinds), times))
    return found
