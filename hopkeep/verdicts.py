"""Verdicts on rows: a table that covers a bound, or a story that breaks it."""

from hopkeep.chains import late_story
from hopkeep.errors import InvalidEvent
from hopkeep.events import is_number
from hopkeep.machine import Machine
from hopkeep.reckoning import hops_of, last_column, leaving, reaches
from hopkeep.worstage import check_bound, is_within, sound, worst_table


def judge(setting, bound):
    """("kept", table) or ("broken", story)."""
    table = worst_table(setting)
    check_bound(bound)
    if is_within(table[0][-1], bound):
        return ("kept", table)
    return ("broken", late_story(setting, bound + 1))


def covers(setting, bound, table):
    """True if a table shows that no answer is later than the bound; it may be of any kind."""
    hops = hops_of(setting)
    check_bound(bound)
    last = last_column(hops)
    if not sound(setting) or not is_table(table, len(hops), last + 1):
        return False
    rows = [*table, [0] * (last + 1)]
    for hop, row, above in zip(hops, rows, rows[1:]):
        if not all([reaches(age, least) for age, least in zip(row, leaving(hop, above, above))]):
            return False
    return is_within(rows[0][-1], bound)


def is_table(value, rows, columns):
    """True if the value is a list of so many rows of ages."""
    if not isinstance(value, list) or len(value) != rows:
        return False
    return all([is_row(row, columns) for row in value])


def is_row(value, columns):
    """True if the value is a list of so many ages, each an integer from 0 on or None."""
    if not isinstance(value, list) or len(value) != columns:
        return False
    return all([age is None or (is_number(age) and age >= 0) for age in value])


def breaks(setting, bound, story):
    """True if the last ask of a story is told later than the bound; it may be of any kind."""
    machine = Machine(setting)
    check_bound(bound)
    if not isinstance(story, list) or not story:
        return False
    try:
        tellings = machine.run(story)
    except InvalidEvent:
        return False
    if story[-1][0] != "ask" or tellings[-1] is None:
        return False
    return tellings[-1][0] > bound
