"""A keyer that goes tick by tick, by the words of [6], [7] and [8], and many small rules and records."""

import itertools

REMEMBER = ["none", "press", "held"]
BOTH = ["turn", "stay", "s", "l"]
LENGTHS = [(2, 4, 2), (3, 1, 2), (1, 2, 1), (2, 2, 3), (1, 1, 1), (1, 5, 2)]
STEP_WORDS = [
    "press s", "press l", "release s", "release l", "begin s", "begin l", "hear", "remember s", "remember l", "idle",
]


class PlainKeyer:
    """Told the clock of each tick by itself, and the events behind it."""

    def __init__(self, rules):
        self.length = {"s": rules[0], "l": rules[1]}
        self.pause, self.deaf, self.remember, self.again, self.both = rules[2:]
        self.now = None
        self.down = set()
        self.mark = None
        self.hearing_done = False
        self.remembered = set()
        self.marks = []
        self.steps = []

    def decision(self):
        begin, _, kind = self.mark
        return begin + self.length[kind] + self.pause

    def hearing(self):
        """The tick of the hearing of the present mark, None if it has none."""
        begin, _, kind = self.mark
        can_remember = self.remember != "none" or self.again
        return begin + self.deaf if can_remember and self.deaf < self.length[kind] + self.pause else None

    def begin(self, kind):
        self.steps.append((self.now, "begin " + kind))
        self.mark = (self.now, self.now + self.length[kind], kind)
        self.marks.append(self.mark)
        self.remembered = set()
        self.hearing_done = False
        if self.hearing() == self.now:
            self.hear()

    def hear(self):
        self.hearing_done = True
        other = "l" if self.mark[2] == "s" else "s"
        if self.remember == "held" and other in self.down:
            self.note(other)

    def note(self, lever):
        if lever not in self.remembered:
            self.remembered.add(lever)
            self.steps.append((self.now, "remember " + lever))

    def clock(self, tick):
        """The clock of the next tick."""
        self.now = tick
        if self.mark is None:
            return
        if tick == self.decision():
            self.decide()
        elif not self.hearing_done and tick == self.hearing():
            self.steps.append((tick, "hear"))
            self.hear()

    def decide(self):
        own = self.mark[2]
        other = "l" if own == "s" else "s"
        if other in self.remembered:
            self.begin(other)
        elif self.down == {"s", "l"}:
            self.begin(other if self.both == "turn" else own if self.both == "stay" else self.both)
        elif self.down:
            self.begin(min(self.down))
        elif own in self.remembered:
            self.begin(own)
        else:
            self.steps.append((self.now, "idle"))
            self.mark, self.remembered = None, set()

    def event(self, lever, is_press):
        self.steps.append((self.now, ("press " if is_press else "release ") + lever))
        if not is_press:
            self.down.remove(lever)
            return
        self.down.add(lever)
        if self.mark is None:
            self.begin(lever)
        elif self.hearing_done and (self.again if lever == self.mark[2] else self.remember != "none"):
            self.note(lever)

    def go_to(self, tick):
        """All clocks from the present tick to this one."""
        first = tick if self.now is None else self.now + 1
        for each in range(first, tick + 1):
            self.clock(each)

    def finish(self):
        while self.mark is not None:
            self.clock(self.now + 1)


def plain_keyer(rules, record):
    """The plain keyer behind a record, idle again."""
    keyer = PlainKeyer(rules)
    for tick, lever, is_press in record:
        keyer.go_to(tick)
        keyer.event(lever, is_press)
    keyer.finish()
    return keyer


def plain_tidy(marks, stand_together):
    """The tidy list of [7], of tuples (begin, word, times); marks are taken one by one from the left."""
    found = []
    at = 0
    while at < len(marks):
        behind = at + 1
        while behind < len(marks) and stand_together(marks[behind - 1], marks[behind]):
            behind += 1
        kinds = "".join(mark[2] for mark in marks[at:behind])
        same = len(list(itertools.takewhile(lambda kind: kind == kinds[0], kinds)))
        turning = next((n for n in range(1, len(kinds)) if kinds[n] == kinds[n - 1]), len(kinds))
        word, times = (kinds[0], same) if same >= 2 else (kinds[:2], turning // 2) if turning >= 4 else (kinds[0], 1)
        found.append((marks[at][0], word, times))
        at += len(word) * times
    return found


def plain_runs(rules, marks):
    return plain_tidy(marks, lambda one, other: other[0] - one[1] == rules[2])


def plain_kinds(marks):
    return [(word, times) for _, word, times in plain_tidy(marks, lambda one, other: True)]


def all_marks(rules, runs):
    """The marks of some runs, one by one."""
    found = []
    for begin, word, times in runs:
        for kind in word * times:
            length = rules[0] if kind == "s" else rules[1]
            found.append((begin, begin + length, kind))
            begin += length + rules[2]
    return found


def small_rules(lengths=None):
    """Many small rules: all words, and deaf 0 and near to each period."""
    for s, l, pause in LENGTHS if lengths is None else lengths:
        near = {0, 1, *(period + by for period in (s + pause, l + pause) for by in (-1, 0, 1))}
        for rest in itertools.product(sorted(near), REMEMBER, [False, True], BOTH):
            yield (s, l, pause, *rest)


def some_record(rules, many, chance):
    """A record of about so many events, many of them near to where something happens."""
    keyer = PlainKeyer(rules)
    keyer.go_to(chance.choice([0, 0, -7, 11]))
    record = []
    while len(record) < many or keyer.down:
        near = [keyer.now, keyer.now, keyer.now + 1, keyer.now + chance.randint(0, 9)]
        if keyer.mark is not None:
            ends = [keyer.mark[1], keyer.decision(), keyer.decision() + rules[0] + rules[2]]
            ends += [] if keyer.hearing() is None else [keyer.hearing()]
            near += [tick + by for tick in ends for by in (-1, 0, 1)]
        keyer.go_to(chance.choice([tick for tick in near if tick >= keyer.now]))
        lever = chance.choice("sl") if len(record) < many else min(keyer.down)
        record.append((keyer.now, lever, lever not in keyer.down))
        keyer.event(lever, lever not in keyer.down)
    return record


def small_cases(each, chance, lengths=None):
    """Small rules with so many small records each, and with the plain keyer behind them."""
    for rules in small_rules(lengths):
        for _ in range(each):
            record = some_record(rules, chance.randint(1, 9), chance)
            yield rules, record, plain_keyer(rules, record)
