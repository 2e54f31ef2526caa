"""What the hops of a row keep and tell as long as nothing is off, late or lost."""

from hopkeep.errors import NotCalm
from hopkeep.events import MOST_WAIT, is_number
from hopkeep.kinds import serve_limit
from hopkeep.stories import is_hop
from hopkeep.worstage import sound


class CalmRow:
    """A row with a calm setting. It goes from one state to the next and keeps none itself."""

    def __init__(self, setting, limits):
        self.nothing = (None,) * setting.hops
        self.numbers = list(range(1, setting.hops + 1))
        self._setting = setting
        self._limits = limits
        self._tells = [make.tells for make in setting.makes]
        self._dates = [make.dates for make in setting.makes]
        self._durable = [make.durable for make in setting.makes]

    def allows(self, event):
        """True if the value is an event of a calm story; it may be of any kind."""
        if not isinstance(event, tuple) or len(event) == 0:
            return False
        name, *rest = event
        if name == "change":
            return len(rest) == 0
        if name == "wait":
            return len(rest) == 1 and is_number(rest[0]) and 1 <= rest[0] <= MOST_WAIT
        if name == "stop":
            return len(rest) == 1 and is_hop(self._setting, rest[0])
        return name == "ask" and len(rest) == 2 and is_hop(self._setting, rest[0]) and rest[1] is None

    def is_state(self, value):
        """True if the value is a state of the setting; it may be of any kind."""
        if not isinstance(value, tuple) or len(value) != len(self._limits):
            return False
        return all([entry is None or is_entry(entry, limit) for entry, limit in zip(value, self._limits)])

    def step(self, state, event):
        """The state behind an event that the row allows, and the telling of an ask or None."""
        name = event[0]
        if name == "ask":
            return self.ask(state, event[1])
        if name == "wait":
            return (self._wait(state, event[1]), None)
        if name == "change":
            return (changed(state), None)
        return (self.stop(state, event[1]), None)

    def ask(self, state, hop):
        """The state behind an ask at a hop, and its telling (behind, age)."""
        at = hop - 1
        while at < len(state) and state[at] is None:
            at += 1
        if at == len(state):
            behind, told, since = 0, 0, 0
        else:
            behind, age, since = state[at]
            told = age if self._tells[at] else 0
        entries = list(state)
        for below in range(at - 1, hop - 2, -1):
            age = max(told, since) if self._dates[below] else told
            entries[below] = (behind, age, since) if age < self._limits[below] else None
            told = age if self._tells[below] else 0
        return (tuple(entries), (behind, told))

    def stop(self, state, hop):
        """The state behind a stop of a hop."""
        if self._durable[hop - 1]:
            return state
        return (*state[:hop - 1], None, *state[hop:])

    def _wait(self, state, ticks):
        entries = []
        for entry, limit in zip(state, self._limits):
            if entry is None or entry[1] + ticks >= limit:
                entries.append(None)
            else:
                behind, age, since = entry
                entries.append((behind, age + ticks, since + ticks))
        return tuple(entries)


def changed(state):
    """The state behind a change of the content."""
    return tuple([None if entry is None else (entry[0] + 1, entry[1], entry[2]) for entry in state])


def is_entry(value, limit):
    """True if the value is what a hop with this limit may keep in a state."""
    if not isinstance(value, tuple) or len(value) != 3:
        return False
    return all([is_number(item) and item >= 0 for item in value]) and value[1] < limit


def calm_rows(*settings):
    """The rows of these settings; raises NoLifetime for one of them, then NotCalm for one of them."""
    limits = [[serve_limit(make, setting.kind) for make in setting.makes] for setting in settings]
    for setting, own in zip(settings, limits):
        if not setting.calm or not sound(setting) or None in own:
            raise NotCalm()
    return [CalmRow(setting, own) for setting, own in zip(settings, limits)]
