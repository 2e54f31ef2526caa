"""Calm states: what a row keeps, event by event."""

from hopkeep.calmrow import calm_rows
from hopkeep.errors import InvalidEvent


def calm_start(setting):
    """The state in which no hop keeps anything."""
    row = calm_rows(setting)[0]
    return row.nothing


def calm_step(setting, state, event):
    """The state behind an event, and the telling (behind, age) of an ask or None."""
    row = calm_rows(setting)[0]
    if not row.allows(event):
        raise InvalidEvent(0)
    return row.step(state, event)


def joined_state(first, second):
    """The states of two rows with the ranks of the numbers of changes in the place of these numbers."""
    numbers = sorted(set([0] + [entry[0] for entry in first + second if entry is not None]))
    ranks = {number: rank for rank, number in enumerate(numbers)}
    return (ranked(first, ranks), ranked(second, ranks))


def ranked(state, ranks):
    """A state with ranks in the place of numbers of changes."""
    return tuple([None if entry is None else (ranks[entry[0]], entry[1], entry[2]) for entry in state])
