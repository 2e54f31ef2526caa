"""Plans: when to ask so that content is at hand whenever it is needed."""

from hopkeep.errors import InvalidValue
from hopkeep.events import is_number
from hopkeep.worstage import check_bound, worst


def plan_asks(setting, needs, slots, bound, *, age=-1):
    """The fewest slots that serve all needs, and as many needs that no two of are served by one slot; or None."""
    reach = checked_reach(setting, needs, slots, bound, age)
    chosen = []
    first_needs = []
    for need in needs:
        if chosen and serves(chosen[-1], need, reach):
            continue
        # The latest slot that is not too late for this need serves the most of the needs behind it.
        slot = max([slot for slot in slots if slot <= need], default=None)
        if slot is None or not serves(slot, need, reach):
            return None
        chosen.append(slot)
        first_needs.append(need)
    return (chosen, first_needs)


def is_plan(setting, needs, slots, bound, answer, *, age=-1):
    """True if an answer serves all needs with as few slots as possible; it may be of any kind."""
    reach = checked_reach(setting, needs, slots, bound, age)
    if not isinstance(answer, tuple) or len(answer) != 2:
        return False
    chosen, apart = answer
    if not is_choice(chosen, slots) or not is_choice(apart, needs) or len(chosen) != len(apart):
        return False
    if not all([any([serves(slot, need, reach) for slot in chosen]) for need in needs]):
        return False
    # Whoever serves two of the needs also serves two that are neighbours.
    return not any([serves(slot, one, reach) and serves(slot, two, reach)
                    for one, two in zip(apart, apart[1:]) for slot in slots])


def checked_reach(setting, needs, slots, bound, age):
    """For how many ticks the answer of a slot serves, None if for none; raises the errors of the parameters."""
    late = worst(setting, age=age)
    if not is_ascending(needs):
        raise InvalidValue("needs")
    if not is_ascending(slots):
        raise InvalidValue("slots")
    check_bound(bound)
    return None if late is None else bound - late


def serves(slot, need, reach):
    """True if an answer that is told at the slot serves the need."""
    return reach is not None and slot <= need <= slot + reach


def is_ascending(ticks):
    """True if the integers are not below 0, and each one is greater than the one before it."""
    return all([before < tick for before, tick in zip([-1, *ticks], ticks)])


def is_choice(value, ticks):
    """True if the value is an ascending list of some of these ticks."""
    if not isinstance(value, list) or not all([is_number(tick) for tick in value]):
        return False
    return is_ascending(value) and all([tick in ticks for tick in value])
