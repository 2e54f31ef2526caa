"""Rows without messages, which play stories."""

from hopkeep.ages import current_age
from hopkeep.errors import InvalidEvent
from hopkeep.kinds import is_kept, serve_limit
from hopkeep.marks import settled
from hopkeep.stories import check_story, is_story_event

# Greater ages and readings have too many digits, so nobody can read them.
MOST_READ = 999999
# A condition is the mark or the change reading of a version; this is the absence of both.
NO_CONDITION = (None, None)


class Version:
    """What the fields of an answer tell of its content."""

    def __init__(self, content, mark, changed, date):
        # Contents are counted from 0 in the order in which they were there.
        self.content = content
        self.mark = mark
        self.changed = changed
        self.date = date

    def meets(self, condition):
        """True if an answer with this version is the same that the condition names."""
        mark, changed = condition
        if mark is not None:
            return self.mark == mark
        return changed is not None and self.changed is not None and self.changed <= changed


class Answer:
    """An answer that is told: its status, version and told age."""

    def __init__(self, status, version, age):
        self.status = status
        self.version = version
        self.age = age


class Stock:
    """An answer as a hop keeps it."""

    def __init__(self, version, initial, arrived):
        self.version = version
        self.initial = initial
        self.arrived = arrived


class Machine:
    """Plays the events of stories; its tellings are those of a row of messages."""

    def __init__(self, setting):
        kind = setting.kind
        self._limits = [serve_limit(make, kind) for make in setting.makes]
        self._error_limits = [serve_limit(make, kind, on_error=True) for make in setting.makes]
        self._keeps = [is_kept(make, kind) for make in setting.makes]
        self._setting = setting
        self._time = 0
        self._offsets = [0] * (setting.hops + 1)
        self._delays = [0] * setting.hops
        # The orders that wait, as pairs (hop, way).
        self._losses = {}
        self._changes_behind = False
        # For each content that was replaced the time at which that happened.
        self._replaced = []
        self._epoch = 0
        self._changed = 0
        self._stocks = [None] * setting.hops

    @property
    def time(self):
        """The true time."""
        return self._time

    def play(self, event):
        """Carries out an event; the telling of an ask, None for other events."""
        if not is_story_event(self._setting, event):
            raise InvalidEvent(0)
        return self._carry_out(event)

    def run(self, story):
        """Plays all events of a list, or none of them if one is invalid; the tellings of the asks."""
        check_story(self._setting, story)
        results = [self._carry_out(event) for event in story]
        return [result for event, result in zip(story, results) if event[0] == "ask"]

    def copy(self):
        """A machine in the same state that does not change with this one."""
        twin = Machine(self._setting)
        twin._time = self._time
        twin._offsets = list(self._offsets)
        twin._delays = list(self._delays)
        twin._losses = {order: True for order in self._losses}
        twin._changes_behind = self._changes_behind
        twin._replaced = list(self._replaced)
        twin._epoch = self._epoch
        twin._changed = self._changed
        twin._stocks = list(self._stocks)
        return twin

    def _carry_out(self, event):
        actions = {"wait": self._wait, "clock": self._set_clock, "delay": self._set_delay, "change": self._change,
                   "alike": self._change_alike, "behind": self._change_behind, "lose": self._lose,
                   "stop": self._stop, "ask": self._ask}
        action = actions[event[0]]
        rest = event[1:]
        return action(*rest)

    def _wait(self, ticks):
        self._time += ticks

    def _set_clock(self, hop, offset):
        self._offsets[hop - 1] = offset

    def _set_delay(self, hop, delay):
        self._delays[hop - 1] = delay

    def _change(self):
        self._epoch += 1
        self._change_alike()

    def _change_alike(self):
        self._replaced.append(self._time)
        self._changed = self._reading(self._setting.hops + 1)

    def _change_behind(self):
        self._changes_behind = True

    def _lose(self, hop, way):
        self._losses[(hop, way)] = True

    def _stop(self, hop):
        if not self._setting.makes[hop - 1].durable:
            self._stocks[hop - 1] = None

    def _ask(self, hop, wish):
        answer = self._answer_at(hop, wish, NO_CONDITION)
        if answer.status != "ok":
            return None
        content = answer.version.content
        late = self._time - self._replaced[content] if content < len(self._replaced) else 0
        return (late, answer.age)

    def _reading(self, hop):
        """What the clock of a hop shows now."""
        return self._time + self._offsets[hop - 1]

    def _answer_at(self, hop, wish, condition):
        """What a hop or the origin answers to a get with this condition."""
        if hop > self._setting.hops:
            return self._answer_of_origin(condition)
        stock = self._stocks[hop - 1]
        if stock is not None and may_serve(self._limits[hop - 1], wish, self._age(hop, stock)):
            return self._told_from(hop, stock, condition)
        answer = self._answer_from_above(hop, wish, self._passed_condition(hop, condition))
        if answer is not None and answer.status != "error":
            return self._taken(hop, answer, condition)
        if stock is not None and may_serve(self._error_limits[hop - 1], wish, self._age(hop, stock)):
            return self._told_from(hop, stock, condition)
        return Answer("error", None, 0)

    def _answer_of_origin(self, condition):
        kind = self._setting.kind
        now = self._reading(self._setting.hops + 1)
        content = len(self._replaced)
        marks = {"strong": content, "weak": self._epoch, "none": None}
        changed = self._changed if kind.dated and settled(self._changed, now, kind.margin) else None
        version = Version(content, marks[kind.mark], readable(changed), readable(now))
        if self._changes_behind:
            self._changes_behind = False
            self._change()
        return Answer("same" if version.meets(condition) else "ok", version, 0)

    def _passed_condition(self, hop, condition):
        """The condition with which a hop passes on a get that came with another one."""
        stock = self._stocks[hop - 1]
        if stock is None:
            return condition
        if not self._setting.makes[hop - 1].checks:
            return NO_CONDITION
        version = stock.version
        return (None, version.changed) if version.mark is None else (version.mark, None)

    def _answer_from_above(self, hop, wish, condition):
        """The answer that a hop gets to a get that it passes on, None if it is lost."""
        if self._losses.pop((hop, "up"), False):
            return None
        answer = self._answer_at(hop + 1, wish, condition)
        self._time += self._delays[hop - 1]
        return None if self._losses.pop((hop, "back"), False) else answer

    def _taken(self, hop, answer, condition):
        """What a hop tells when an answer with the status ok or same arrives."""
        make = self._setting.makes[hop - 1]
        old = self._stocks[hop - 1]
        now = self._reading(hop)
        version = answer.version
        initial = make.initial_age(answer.age, version.date, now)
        if answer.status == "same":
            if old is None:
                # A lower hop asked for this; without the content there is nothing to keep.
                return Answer("same", version, told_of(make, initial))
            # What a check found the same has all fields that the check looked at.
            version = Version(old.version.content, version.mark, version.changed, version.date)
        stock = Stock(version, initial, now)
        if self._keeps[hop - 1]:
            self._stocks[hop - 1] = stock
        return self._told_from(hop, stock, condition)

    def _told_from(self, hop, stock, condition):
        status = "same" if stock.version.meets(condition) else "ok"
        return Answer(status, stock.version, told_of(self._setting.makes[hop - 1], self._age(hop, stock)))

    def _age(self, hop, stock):
        """The current age of what a hop keeps."""
        return current_age(stock.initial, stock.arrived, self._reading(hop))


def readable(reading):
    """A reading as others know it, None if they do not."""
    return None if reading is None or abs(reading) > MOST_READ else reading


def told_of(make, age):
    """The told age of an answer that a make tells with this age."""
    return age if make.tells and age <= MOST_READ else 0


def may_serve(limit, wish, age):
    """True if a kept answer may be told without asking further up, or after no answer came from there."""
    # An ask for a check has an age below 0, so no kept answer is young enough for it.
    if wish is not None and age > wish:
        return False
    return limit is None or age < limit
