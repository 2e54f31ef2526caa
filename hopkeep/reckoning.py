"""How old answers can be when they leave a hop. In all ages here None means that there is no bound."""

from hopkeep.kinds import serve_limit


class Hop:
    """What counts of a hop for the age of its answers."""

    def __init__(self, setting, at):
        make = setting.makes[at]
        clock = setting.clocks[at]
        self.limit = serve_limit(make, setting.kind, on_error=setting.loses)
        # How much longer than its clock shows an answer may have been kept.
        self.jump = clock.span
        self.delay = setting.delays[at]
        self.tells = make.tells
        # How much older an answer may be than its date makes it seem, None if dates are not compared.
        self.slack = clock.behind + setting.clocks[-1].ahead if make.dates else None


def hops_of(setting):
    """The hops of a setting, the one next to the reader first."""
    return [Hop(setting, at) for at in range(setting.hops)]


def last_column(hops):
    """The number of the last column of a table."""
    return max([1] + [hop.limit for hop in hops if hop.limit is not None])


def plus(age, ticks):
    """An age some ticks later."""
    return None if age is None else age + ticks


def greater(first, second):
    """The greater one of two ages."""
    return None if first is None or second is None else max(first, second)


def less(first, second):
    """The lesser one of two ages."""
    if first is None:
        return second
    return first if second is None else min(first, second)


def reaches(age, goal):
    """True if the greatest age is not less than the goal."""
    if age is None:
        return True
    return goal is not None and age >= goal


def arriving(hop, above):
    """The ages of answers that arrive at a hop, for the row above it."""
    return [plus(age, hop.delay) for age in above]


def dated(hop, age, told):
    """The age of an answer with this told age, as far as a hop takes it that may compare its date."""
    return age if hop.slack is None else less(age, told + hop.slack)


def passing(hop, above):
    """The ages of answers that a hop passes on without keeping them before."""
    ages = arriving(hop, above)
    return [dated(hop, age, told) for told, age in enumerate(ages[:-1])] + ages[-1:]


def resting(hop, above):
    """The ages of answers that a hop kept for some time, for all told ages but those of the last column."""
    found = []
    # The greatest amount by which an answer that arrived can be older than it was told to be.
    hidden = 0
    for told, age in enumerate(arriving(hop, above)[:-1]):
        hidden = greater(hidden, plus(age, -told))
        found.append(dated(hop, plus(hidden, told + hop.jump), told))
    return found


def leaving(hop, above, earlier):
    """The row of a hop for the row above it, and for the one above it when answers arrived that were kept."""
    ages = passing(hop, above)
    if earlier is not None and hop.limit != 0:
        kept = resting(hop, earlier)
        if hop.limit is None:
            # Whoever does not look at the told age may be told what rested for any time.
            kept.append(None)
        else:
            kept = [kept[min(told, hop.limit - 1)] for told in range(len(ages))]
        ages = [greater(first, second) for first, second in zip(ages, kept)]
    return ages if hop.tells else [ages[-1]] * len(ages)


def table_of(hops, last):
    """The rows of the hops with the columns 0 to last, and behind them the row above the last hop."""
    rows = [[0] * (last + 1)]
    for hop in reversed(hops):
        rows.insert(0, leaving(hop, rows[0], rows[0]))
    return rows


def tables_by_asks(hops, last):
    """A table for each number of asks before the last one, in the form of `table_of`."""
    tables = []
    for asks in range(len(hops) + 1):
        rows = [[0] * (last + 1)]
        for at in reversed(range(len(hops))):
            earlier = tables[asks - 1][at + 1] if asks > 0 else None
            rows.insert(0, leaving(hops[at], rows[0], earlier))
        tables.append(rows)
    return tables
