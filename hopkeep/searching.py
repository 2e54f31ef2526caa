"""A plain search for stories that break a bound, step by step and without the tables of worst ages.

With strong marks it is enough to follow one answer of the origin, behind which the content changes at once. All
that a reader is told rests on such an answer; leaving out the other asks, and letting each ask enter at the hop
from which the next one is answered, changes no reading and leaves nothing kept at the hops below.
"""

from hopkeep.ages import current_age
from hopkeep.kinds import serve_limit
from hopkeep.worstage import check_bound


class Walk:
    """All ways that one answer of the origin can go within some ticks, ask by ask.

    An answer on its way is a triple (time, told age, date), an answer that is kept a tuple (time, initial age,
    arrival, date). Both are keys, so that each of them is followed only once.
    """

    def __init__(self, setting, ticks):
        self._setting = setting
        self._ticks = ticks
        self._limits = [serve_limit(make, setting.kind, on_error=setting.loses) for make in setting.makes]
        self._kept = [{} for _ in setting.makes]
        self._sent = {(0, 0, date): True for date in offsets(setting.clocks[-1])}
        self.latest = 0

    def ask(self):
        """Lets the next ask enter at each hop."""
        leaving = self._sent
        for at in reversed(range(self._setting.hops)):
            arriving = self._delayed(at, leaving)
            leaving = self._told_from_kept(at)
            self._kept[at] = self._arrived(at, arriving)
            for answer in self._kept[at]:
                leaving[(answer[0], self._age_told(at, answer[1]), answer[3])] = True
            self.latest = max([self.latest] + [answer[0] for answer in leaving])

    def _delayed(self, at, leaving):
        """The answers that leave a hop, as they arrive at the next one."""
        delays = range(self._setting.delays[at] + 1)
        return {(time + delay, told, date): True for time, told, date in leaving for delay in delays
                if time + delay <= self._ticks}

    def _arrived(self, at, arriving):
        """The answers that a hop takes and may keep."""
        make = self._setting.makes[at]
        kept = {}
        for time, told, date in arriving:
            for offset in offsets(self._setting.clocks[at]):
                kept[(time, make.initial_age(told, date, time + offset), time + offset, date)] = True
        return kept

    def _told_from_kept(self, at):
        """The answers that leave a hop which kept them since an earlier ask."""
        limit = self._limits[at]
        found = {}
        for time, initial, arrived, date in self._kept[at]:
            for later in range(time, self._ticks + 1):
                for offset in offsets(self._setting.clocks[at]):
                    age = current_age(initial, arrived, later + offset)
                    if limit is None or age < limit:
                        found[(later, self._age_told(at, age), date)] = True
        return found

    def _age_told(self, at, age):
        return age if self._setting.makes[at].tells else 0


def search(setting, bound, ticks):
    """The least number of asks of a story within so many ticks that breaks the bound, None if there is none."""
    walk = Walk(setting, ticks)
    check_bound(bound)
    # An answer rests at each hop at most once, and each rest takes an ask.
    for asks in range(1, setting.hops + 2):
        walk.ask()
        if walk.latest > bound:
            return asks
    return None


def offsets(clock):
    """All that a clock may be off by."""
    return list(range(-clock.behind, clock.ahead + 1))
