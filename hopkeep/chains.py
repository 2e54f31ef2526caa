"""Stories with the fewest asks in which a reader is told what was replaced a given time ago."""

from hopkeep.events import MOST_WAIT
from hopkeep.kinds import serve_limit
from hopkeep.reckoning import arriving, hops_of, last_column, passing, plus, reaches, tables_by_asks
from hopkeep.worstage import sound


class Chain:
    """The way of one answer from the origin to the reader, gone back from the reader hop by hop.

    The answer rests at some hops. Each rest begins with an ask that enters there, so that no hop further down
    keeps anything, and it ends with the next ask, which is answered from that hop.
    """

    def __init__(self, setting, late):
        self._setting = setting
        self._hops = hops_of(setting)
        self._last = last_column(self._hops)
        self._tables = tables_by_asks(self._hops, self._last)
        # The number of asks before the one that brings the answer to the present hop, and where that one enters.
        self._asks = [reaches(rows[0][-1], late) for rows in self._tables].index(True)
        self._entry = 1
        # The age that the answer is told to have at most, and its true age.
        self._told_age = self._last
        self._true_age = late
        self._begin = clock_events(setting.hops + 1, 0, setting.clocks[-1].ahead)
        self._end = []

    def story(self):
        """The events, from the first ask to the last one."""
        for number, hop in enumerate(self._hops, 1):
            if not hop.tells:
                self._told_age = self._last
            if reaches(passing(hop, self._above(number))[self._told_age], self._true_age):
                offset = -self._setting.clocks[number - 1].behind
            else:
                offset = self._rest(number, hop)
            delay = min(hop.delay, self._true_age)
            self._true_age -= delay
            self._begin.extend([*clock_events(number, 0, offset), *delay_events(number, delay)])
        return [*self._begin, ("behind",), ("ask", self._entry, None), *self._end]

    def _above(self, number):
        """The row above a hop for the asks that are left."""
        return self._tables[self._asks][number]

    def _rest(self, number, hop):
        """Goes back to the arrival of the answer at a hop where it rests; what the clock is off by then."""
        self._asks -= 1
        clock = self._setting.clocks[number - 1]
        ages = arriving(hop, self._above(number))
        most = self._most_rested(hop)
        told = self._last if most is None else first_reaching(ages, most + hop.jump, self._true_age)
        age = self._true_age if reaches(ages[told], self._true_age) else ages[told]
        # The higher the clock was, the longer the answer seems not to rest; but then its date seems longer ago.
        offset = clock.ahead
        if hop.slack is not None and most is not None:
            offset = min(offset, most - age + self._setting.clocks[-1].ahead)
        serving = [*clock_events(number, offset, -clock.behind), *loss_events(self._setting, number)]
        self._end = [*waits(self._true_age - age), *serving, ("ask", self._entry, None), *self._end]
        self._entry = number
        self._told_age = told
        self._true_age = age
        return offset

    def _most_rested(self, hop):
        """The greatest current age with which the answer may leave a hop where it rested, None for any age."""
        if hop.limit is not None:
            return min(self._told_age, hop.limit - 1)
        return None if self._told_age == self._last else self._told_age


def late_story(setting, late):
    """A story whose last ask is at hop 1 and is told content so late; there must be one."""
    delays = sum(setting.delays)
    if sound(setting) or late <= delays:
        return Chain(setting, late).story()
    return mistaken_story(setting, late)


def mistaken_story(setting, late):
    """Such a story of two asks for a setting that is not sound.

    All hops keep the first content as far as they can, and whoever checks later takes the second one for the same.
    """
    kind = setting.kind
    ask = ("ask", 1, None)
    if kind.mark == "weak":
        return [ask, ("alike",), *waits(late), ask]
    origin = setting.hops + 1
    clock = setting.clocks[-1]
    # The first answer tells that the content is there since the reading 0, and the change has no greater reading.
    begin = clock_events(origin, 0, clock.ahead) + waits(max(0, kind.margin - clock.ahead))
    back = clock_events(origin, clock.ahead, -clock.behind)
    forth = clock_events(origin, -clock.behind, clock.ahead)
    return [*begin, ask, *back, ("change",), *forth, *waits(late), ask]


def first_reaching(ages, most, goal):
    """The least told age with which an answer can arrive to have the goal as its age at the end.

    It rests until its told age has grown to `most`, which counts what the clock hides.
    """
    return [reaches(plus(age, most - told), goal) for told, age in enumerate(ages)].index(True)


def waits(ticks):
    """The events in which so many ticks pass."""
    whole, rest = divmod(ticks, MOST_WAIT)
    return [("wait", MOST_WAIT)] * whole + ([("wait", rest)] if rest > 0 else [])


def clock_events(number, old, offset):
    """The event that changes what a clock is off by."""
    return [] if offset == old else [("clock", number, offset)]


def delay_events(number, delay):
    """The event that sets a delay where there was none."""
    return [] if delay == 0 else [("delay", number, delay)]


def loss_events(setting, number):
    """The event that lets a hop tell as late as it does only if no answer comes from further up."""
    make = setting.makes[number - 1]
    if not setting.loses or serve_limit(make, setting.kind) == serve_limit(make, setting.kind, on_error=True):
        return []
    return [("lose", number, "up")]
