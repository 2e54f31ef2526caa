"""The worst ages: how late the answers of a row can be."""

from hopkeep.errors import InvalidValue
from hopkeep.kinds import is_kept
from hopkeep.reckoning import greater, hops_of, last_column, plus, reaches, resting, table_of, tables_by_asks


def sound(setting):
    """True if an answer `same` to a check can be trusted."""
    # Each function of this file reckons the hops first, which raises NoLifetime before everything else.
    hops_of(setting)
    kind = setting.kind
    if not any([make.checks and is_kept(make, kind) for make in setting.makes]):
        return True
    if kind.mark == "none":
        return not kind.dated or kind.margin > setting.clocks[-1].span
    return kind.mark == "strong"


def worst_table(setting):
    """The table of worst ages: for each hop and each told age the greatest true age, None without a bound."""
    hops = hops_of(setting)
    last = last_column(hops)
    if not sound(setting):
        return [[None] * (last + 1) for _ in hops]
    return table_of(hops, last)[:-1]


def worst(setting, *, age=None):
    """The greatest lateness at hop 1, None without a bound; with an age that of an ask with this age."""
    if age is None:
        return worst_table(setting)[0][-1]
    hops = hops_of(setting)
    if not sound(setting):
        return None
    last = max(last_column(hops), age + 1)
    return ages_for_wishes(hops, last)[max(0, age + 1)]


def loosest(setting, bound):
    """The greatest age that a reader may ask for, "any", or None, so that no answer is later than the bound."""
    hops = hops_of(setting)
    check_bound(bound)
    if is_within(worst(setting), bound):
        return "any"
    if not sound(setting):
        return None
    ages = ages_for_wishes(hops, last_column(hops))
    return max([wish for wish, age in enumerate(ages, -1) if is_within(age, bound)], default=None)


def worst_by_asks(setting):
    """The greatest lateness at hop 1 for stories of one ask, of at most two asks, and so on."""
    hops = hops_of(setting)
    ages = [rows[0][-1] for rows in tables_by_asks(hops, last_column(hops))]
    return ages if sound(setting) else ages[:1] + [None] * len(hops)


def fewest_asks(setting, bound):
    """The least number of asks of a story that breaks the bound, None if there is none."""
    ages = worst_by_asks(setting)
    check_bound(bound)
    for asks, age in enumerate(ages, 1):
        if not is_within(age, bound):
            return asks
    return None


def check_bound(bound):
    """Raises InvalidValue for a bound below 0."""
    if bound < 0:
        raise InvalidValue("bound")


def is_within(age, bound):
    """True if there is a greatest age, and it is at most the bound."""
    return not reaches(age, bound + 1)


def ages_for_wishes(hops, last):
    """The greatest lateness at hop 1 of asks with the ages -1 to last - 1."""
    rows = table_of(hops, last)
    # An ask for a check passes all hops.
    ages = [sum([hop.delay for hop in hops])] * (last + 1)
    below = 0
    for hop, above in zip(hops, rows[1:]):
        if hop.limit != 0:
            kept = resting(hop, above)
            for wish in range(last):
                told = wish if hop.limit is None else min(wish, hop.limit - 1)
                ages[wish + 1] = greater(ages[wish + 1], plus(kept[told], below))
        below += hop.delay
    return ages
