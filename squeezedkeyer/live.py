"""A live keyer, that is told the events one by one."""

from squeezedkeyer.checks import check_lever, is_whole
from squeezedkeyer.errors import Impossible, InvalidTick, NothingToUndo
from squeezedkeyer.going import Going, gone, runs_in
from squeezedkeyer.rules import check_rules
from squeezedkeyer.runs import tidy_runs


class Keyer:
    """A keyer with all that it has been told."""

    def __init__(self, rules):
        check_rules(rules)
        self._rules = rules
        self._calls = []
        self._going = Going(rules)
        self._sent = []

    def press(self, lever, tick):
        """Press a lever at a tick."""
        check_lever(lever)
        self._check_tick(tick)
        if lever in self._going.held:
            raise Impossible("this lever is down already")
        self._add(("press", lever, tick))

    def release(self, lever, tick):
        """Release a lever at a tick."""
        check_lever(lever)
        self._check_tick(tick)
        if lever not in self._going.held:
            raise Impossible("this lever is not down")
        self._add(("release", lever, tick))

    def wait(self, tick):
        """Let the clock go on to a tick."""
        self._check_tick(tick)
        self._add(("wait", tick))

    def undo(self):
        """Take back the last call that is not taken back yet."""
        if not self._calls:
            raise NothingToUndo("there is no call to take back")
        self._go_through(self._calls[:-1])

    def _check_tick(self, tick):
        """Raise InvalidTick unless the keyer can be brought to a tick."""
        if not is_whole(tick):
            raise InvalidTick("a tick is an integer")
        if self._calls and tick < self._calls[-1][-1]:
            raise InvalidTick("this tick is over")

    def _add(self, call):
        """Do a call that can be done."""
        self._do(call)
        self._calls.append(call)
        self._sent = tidy_runs(self._rules, runs_in(self._going.rows))

    def _do(self, call):
        """Bring the keyer to the tick of a call, and let its event happen."""
        tick = call[-1]
        self._going.go_to(tick)
        if call[0] != "wait":
            self._going.happen(tick, call[1], call[0] == "press")

    def _go_through(self, calls):
        """Do just these calls, from the beginning."""
        self._going = Going(self._rules)
        for call in calls:
            self._do(call)
        self._calls = calls
        self._sent = tidy_runs(self._rules, runs_in(self._going.rows))

    @property
    def tick(self):
        """The present tick, None ahead of all calls."""
        return self._calls[-1][-1] if self._calls else None

    @property
    def runs(self):
        """The tidy runs of the marks that have begun so far."""
        return list(self._sent)

    @property
    def is_idle(self):
        """Whether there is no present mark."""
        return self._going.kind == ""

    @property
    def down(self):
        """The levers that are down, ascending."""
        return [lever for lever in ("l", "s") if lever in self._going.held]

    @property
    def remembered(self):
        """The levers that the present mark remembers, ascending."""
        return [lever for lever in ("l", "s") if lever in self._going.kept]

    @property
    def next_decision(self):
        """The tick of the decision of the present mark, None without one."""
        if self._going.kind == "":
            return None
        return self._going.begun + self._going.periods[self._going.kind]

    @property
    def log(self):
        """The calls that are not taken back."""
        return list(self._calls)

    def would_be(self):
        """The tidy runs that are sent if all levers are released now."""
        releases = [(self.tick, lever, False) for lever in self.down]
        going = gone(self._rules, events_in(self._calls) + releases)
        return tidy_runs(self._rules, runs_in(going.rows))

    def fork(self):
        """A keyer in the same state, that goes on by itself."""
        other = Keyer(self._rules)
        other._go_through(list(self._calls))
        return other

    def __eq__(self, other):
        if not isinstance(other, Keyer):
            return False
        if self._rules != other._rules or self.tick != other.tick:
            return False
        return events_in(self._calls) == events_in(other._calls)


def events_in(calls):
    """The events that some calls tell, as those of a record."""
    return [(call[2], call[1], call[0] == "press") for call in calls if call[0] != "wait"]
