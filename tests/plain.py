"""A keyer that goes tick by tick, by the words of [6], [7] and [8], and many small rules and records."""

import itertools

REMEMBER = ["none", "press", "held"]
BOTH = ["turn", "stay", "s", "l"]
LENGTHS = [(2, 4, 2), (3, 1, 2), (1, 2, 1), (2, 2, 3), (1, 1, 1), (1, 5, 2)]
STEP_WORDS = [
    "press s", "press l", "release s", "release l", "begin s", "begin l", "hear", "remember s", "remember l", "idle",
]


class PlainKeyer:
    """Told the clock of each tick by itself, and the events behind it."""

    def __init__(self, rules):
        self.length = {"s": rules[0], "l": rules[1]}
        self.pause, self.deaf, self.remember, self.again, self.both = rules[2:]
        self.now = None
        self.down = set()
        self.mark = None
        self.hearing_done = False
        self.remembered = set()
        self.marks = []
        self.steps = []

    def decision(self):
        begin, _, kind = self.mark
        return begin + self.length[kind] + self.pause

    def hearing(self):
        """The tick of the hearing of the present mark, None if it has none."""
        begin, _, kind = self.mark
        can_remember = self.remember != "none" or self.again
        return begin + self.deaf if can_remember and self.deaf < self.length[kind] + self.pause else None

    def begin(self, kind):
        self.steps.append((self.now, "begin " + kind))
        self.mark = (self.now, self.now + self.length[kind], kind)
        self.marks.append(self.mark)
        self.remembered = set()
        self.hearing_done = False
        if self.hearing() == self.now:
            self.hear()

    def hear(self):
        self.hearing_done = True
        other = "l" if self.mark[2] == "s" else "s"
        if self.remember == "held" and other in self.down:
            self.note(other)

    def note(self, lever):
        if lever not in self.remembered:
            self.remembered.add(lever)
            self.steps.append((self.now, "remember " + lever))

    def clock(self, tick):
        """The clock of the next tick."""
        self.now = tick
        if self.mark is None:
            return
        if tick == self.decision():
            self.decide()
        elif not self.hearing_done and tick == self.hearing():
            self.steps.append((tick, "hear"))
            self.hear()

    def decide(self):
        own = self.mark[2]
        other = "l" if own == "s" else "s"
        if other in self.remembered:
            self.begin(other)
        elif self.down == {"s", "l"}:
            self.begin(other if self.both == "turn" else own if self.both == "stay" else self.both)
        elif self.down:
            self.begin(min(self.down))
        elif own in self.remembered:
            self.begin(own)
        else:
            self.steps.append((self.now, "idle"))
            self.mark, self.remembered = None, set()

    def event(self, lever, is_press):
        self.steps.append((self.now, ("press " if is_press else "release ") + lever))
        if not is_press:
            self.down.remove(lever)
            return
        self.down.add(lever)
        if self.mark is None:
            self.begin(lever)
        elif self.hearing_done and (self.again if lever == self.mark[2] else self.remember != "none"):
            self.note(lever)

    def go_to(self, tick):
        """All clocks from the present tick to this one."""
        first = tick if self.now is None else self.now + 1
        for each in range(first, tick + 1):
            self.clock(each)

    def finish(self):
        while self.mark is not None:
            self.clock(self.now + 1)


def plain_keyer(rules, record):
    """The plain keyer behind a record, idle again."""
    keyer = PlainKeyer(rules)
    for tick, lever, is_press in record:
        keyer.go_to(tick)
        keyer.event(lever, is_press)
    keyer.finish()
    return keyer


def plain_tidy(marks, stand_together):
    """The tidy list of [7], of tuples (begin, word, times); marks are taken one by one from the left."""
    found = []
    at = 0
    while at < len(marks):
        behind = at + 1
        while behind < len(marks) and stand_together(marks[behind - 1], marks[behind]):
            behind += 1
        kinds = "".join(mark[2] for mark in marks[at:behind])
        same = len(list(itertools.takewhile(lambda kind: kind == kinds[0], kinds)))
        turning = next((n for n in range(1, len(kinds)) if kinds[n] == kinds[n - 1]), len(kinds))
        word, times = (kinds[0], same) if same >= 2 else (kinds[:2], turning // 2) if turning >= 4 else (kinds[0], 1)
        found.append((marks[at][0], word, times))
        at += len(word) * times
    return found


def plain_runs(rules, marks):
    return plain_tidy(marks, lambda one, other: other[0] - one[1] == rules[2])


def plain_kinds(marks):
    return [(word, times) for _, word, times in plain_tidy(marks, lambda one, other: True)]


def all_marks(rules, runs):
    """The marks of some runs, one by one."""
    found = []
    for begin, word, times in runs:
        for kind in word * times:
            length = rules[0] if kind == "s" else rules[1]
            found.append((begin, begin + length, kind))
            begin += length + rules[2]
    return found


def small_rules(lengths=None):
    """Many small rules: all words, and deaf 0 and near to each period."""
    for s, l, pause in LENGTHS if lengths is None else lengths:
        near = {0, 1, *(period + by for period in (s + pause, l + pause) for by in (-1, 0, 1))}
        for rest in itertools.product(sorted(near), REMEMBER, [False, True], BOTH):
            yield (s, l, pause, *rest)


def some_record(rules, many, chance):
    """A record of about so many events, many of them near to where something happens."""
    keyer = PlainKeyer(rules)
    keyer.go_to(chance.choice([0, 0, -7, 11]))
    record = []
    while len(record) < many or keyer.down:
        near = [keyer.now, keyer.now, keyer.now + 1, keyer.now + chance.randint(0, 9)]
        if keyer.mark is not None:
            ends = [keyer.mark[1], keyer.decision(), keyer.decision() + rules[0] + rules[2]]
            ends += [] if keyer.hearing() is None else [keyer.hearing()]
            near += [tick + by for tick in ends for by in (-1, 0, 1)]
        keyer.go_to(chance.choice([tick for tick in near if tick >= keyer.now]))
        lever = chance.choice("sl") if len(record) < many else min(keyer.down)
        record.append((keyer.now, lever, lever not in keyer.down))
        keyer.event(lever, lever not in keyer.down)
    return record


def small_cases(each, chance, lengths=None):
    """Small rules with so many small records each, and with the plain keyer behind them."""
    for rules in small_rules(lengths):
        for _ in range(each):
            record = some_record(rules, chance.randint(1, 9), chance)
            yield rules, record, plain_keyer(rules, record)


def plain_words(rules, record):
    return [word for _, word in plain_keyer(rules, record).steps]


def by_ticks(events):
    """The events sorted by their ticks, those of one tick in their old sequence."""
    return sorted(events, key=lambda event: event[0])


def is_plain_record(events):
    """Whether sorted events press and release each lever in turn."""
    down = set()
    for _, lever, is_press in events:
        if is_press == (lever in down):
            return False
        down ^= {lever}
    return not down


def keeps_words(rules, words, events):
    """Whether events, each with a tick of its own, are a record with these words when they are sorted."""
    events = by_ticks(events)
    return is_plain_record(events) and plain_words(rules, events) == words


def all_moved(record, by):
    """All lists of the same events, each with a tick that is at most so much off."""
    for moves in itertools.product(range(-by, by + 1), repeat=len(record)):
        yield [(tick + move, lever, is_press) for move, (tick, lever, is_press) in zip(moves, record)]


def some_moved(record, by, chance):
    """Such a list, with many events that are off as much as can be."""
    return [(tick + chance.choice([-by, by, chance.randint(-by, by)]), lever, is_press)
            for tick, lever, is_press in record]


def all_records(many, last):
    """All records of so many events, the first one at the tick 0, none behind the last tick."""
    def longer(record, down):
        if len(record) == many:
            if not down:
                yield list(record)
            return
        if len(down) > many - len(record):
            return
        for tick in range(record[-1][0], last + 1) if record else [0]:
            for lever in "sl":
                yield from longer([*record, (tick, lever, lever not in down)], down ^ {lever})

    yield from longer([], frozenset())


def copy_of(keyer):
    other = PlainKeyer.__new__(PlainKeyer)
    vars(other).update(vars(keyer))
    other.down, other.remembered = set(keyer.down), set(keyer.remembered)
    other.marks, other.steps = list(keyer.marks), []
    return other


def records_with(rules, marks, many):
    """All records of so many events that send just these marks."""
    found = []

    def is_right(keyer):
        return keyer.marks == marks[:len(keyer.marks)]

    def go_on(keyer, record):
        if len(record) == many:
            if not keyer.down:
                keyer = copy_of(keyer)
                keyer.finish()
                found.extend([record] if keyer.marks == marks else [])
            return
        while len(keyer.down) <= many - len(record):
            for lever in "sl":
                other = copy_of(keyer)
                other.event(lever, lever not in keyer.down)
                if is_right(other):
                    go_on(other, [*record, (keyer.now, lever, lever not in keyer.down)])
            # Each mark begins at its tick at the latest.
            sent = len(keyer.marks)
            if keyer.now >= marks[-1][1] + rules[2] or (sent < len(marks) and marks[sent][0] <= keyer.now):
                return
            keyer = copy_of(keyer)
            keyer.clock(keyer.now + 1)
            if not is_right(keyer):
                return

    keyer = PlainKeyer(rules)
    keyer.go_to(marks[0][0])
    go_on(keyer, [])
    return found


def some_rules(chance, most):
    """Any rules with lengths up to the most, deaf near to the periods or anywhere."""
    s, l, pause = chance.randint(1, most), chance.randint(1, most), chance.randint(1, max(1, most // 2))
    deaf = chance.choice([0, chance.randint(0, s + pause), chance.randint(0, l + pause)])
    return (s, l, pause, deaf, chance.choice(REMEMBER), chance.choice([False, True]), chance.choice(BOTH))


def plain_kinds_of(rules, record):
    return plain_kinds(plain_keyer(rules, record).marks)


def how_many(kinds):
    return sum(len(word) * times for word, times in kinds)


def stretches_of(numbers):
    """Some numbers as stretches (low, high), as wide as possible."""
    found = []
    for number in sorted(numbers):
        if found and found[-1][1] == number - 1:
            found[-1] = (found[-1][0], number)
        else:
            found.append((number, number))
    return found
