"""Clocks and the settings of rows."""

from hopkeep.errors import InvalidValue

MOST_BOUND = 1000
MOST_DELAY = 1000
MOST_HOPS = 6


class Clock:
    """How far a clock may be behind or ahead of true time."""

    def __init__(self, behind=0, ahead=0):
        if not 0 <= behind <= MOST_BOUND:
            raise InvalidValue("behind")
        if not 0 <= ahead <= MOST_BOUND:
            raise InvalidValue("ahead")
        self.behind = behind
        self.ahead = ahead

    @property
    def span(self):
        """How far apart two readings at the same time can be."""
        return self.behind + self.ahead

    def allows(self, offset):
        """True if the clock may be off by so much."""
        return -self.behind <= offset <= self.ahead

    def reading(self, time, offset):
        """What the clock shows at a true time."""
        if not self.allows(offset):
            raise InvalidValue("offset")
        return time + offset


class Setting:
    """A row of caches: their makes and clocks, the links between them, and the kind of content."""

    def __init__(self, makes, kind, *, clocks=None, delays=None, loses=False):
        hops = len(makes)
        if not 1 <= hops <= MOST_HOPS:
            raise InvalidValue("makes")
        if clocks is not None and len(clocks) != hops + 1:
            raise InvalidValue("clocks")
        if delays is not None and not are_delays(delays, hops):
            raise InvalidValue("delays")
        self.makes = list(makes)
        self.kind = kind
        self.clocks = [Clock() for _ in range(hops + 1)] if clocks is None else list(clocks)
        self.delays = [0] * hops if delays is None else list(delays)
        self.loses = loses

    @property
    def hops(self):
        """The number of caches."""
        return len(self.makes)

    @property
    def calm(self):
        """True if all clocks are exact, no answer is delayed and no message is lost."""
        return not self.loses and not any(self.delays) and all([clock.span == 0 for clock in self.clocks])

    def part(self, first, last):
        """The setting of the hops first to last with the same origin."""
        if not 1 <= first <= self.hops:
            raise InvalidValue("first")
        if not first <= last <= self.hops:
            raise InvalidValue("last")
        return Setting(self.makes[first - 1:last], self.kind, clocks=[*self.clocks[first - 1:last], self.clocks[-1]],
                       delays=self.delays[first - 1:last], loses=self.loses)


def are_delays(delays, hops):
    """True if the list has an allowed delay for each hop."""
    return len(delays) == hops and all([0 <= delay <= MOST_DELAY for delay in delays])
