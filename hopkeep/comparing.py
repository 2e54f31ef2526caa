"""Whether two rows answer alike for ever."""

from hopkeep.calm import joined_state
from hopkeep.calmrow import calm_rows


class Pair:
    """Two rows that meet the same events."""

    def __init__(self, first, second, ages):
        self._rows = calm_rows(first, second)
        self._ages = ages
        self.nothing = (self._rows[0].nothing, self._rows[1].nothing)
        hops = min(first.hops, second.hops)
        self.events = [("wait", 1), ("change",)] + [("ask", hop, None) for hop in range(1, hops + 1)]

    def allows(self, event):
        """True if the value is an event that both rows can meet; it may be of any kind."""
        # True would be equal to the number of the first hop.
        return self._rows[0].allows(event) and event in self.events

    def step(self, states, event):
        """The states behind an event in their common form, None if it is told differently."""
        first, one = self._rows[0].step(states[0], event)
        second, two = self._rows[1].step(states[1], event)
        if one != two and (self._ages or one[0] != two[0]):
            return None
        return joined_state(first, second)

    def is_states(self, value):
        """True if the value is a pair of states; it may be of any kind."""
        if not isinstance(value, tuple) or len(value) != 2:
            return False
        return all([row.is_state(state) for row, state in zip(self._rows, value)])


def compare(first, second, *, ages=True):
    """("same", states) if all asks are told alike, otherwise ("parted", story)."""
    pair = Pair(first, second, ages)
    # For each pair of states the one before it and the event that leads from there.
    before = {pair.nothing: None}
    waiting = [pair.nothing]
    at = 0
    while at < len(waiting):
        states = waiting[at]
        at += 1
        for event in pair.events:
            after = pair.step(states, event)
            if after is None:
                return ("parted", way_to(states, before) + [event])
            if after not in before:
                before[after] = (states, event)
                waiting.append(after)
    return ("same", waiting)


def way_to(states, before):
    """The events that lead from the start to a pair of states."""
    story = []
    while before[states] is not None:
        states, event = before[states]
        story.append(event)
    return story[::-1]


def is_alike(first, second, states, *, ages=True):
    """True if a list of pairs of states shows that all asks are told alike; it may be of any kind."""
    pair = Pair(first, second, ages)
    if not isinstance(states, list) or not all([pair.is_states(one) for one in states]):
        return False
    known = {one: True for one in states}
    if pair.nothing not in known:
        return False
    for one in known:
        for event in pair.events:
            after = pair.step(one, event)
            # None is no pair of states, so it is not known either.
            if after not in known:
                return False
    return True


def parts(first, second, story, *, ages=True):
    """True if the last event of a story is its first ask that is told differently; it may be of any kind."""
    pair = Pair(first, second, ages)
    if not isinstance(story, list) or not story or not all([pair.allows(event) for event in story]):
        return False
    states = pair.nothing
    for event in story[:-1]:
        states = pair.step(states, event)
        if states is None:
            return False
    return pair.step(states, story[-1]) is None
