"""All short stories of small rows, played on machines."""

import itertools

from hopkeep.machine import Machine


def frozen(value):
    """A key for all that a machine holds."""
    if isinstance(value, (list, tuple)):
        return tuple(frozen(item) for item in value)
    if isinstance(value, dict):
        return tuple(sorted((key, frozen(item)) for key, item in value.items()))
    if hasattr(value, "__dict__"):
        return frozen(vars(value))
    return value


def key_of(machine):
    return frozen({name: value for name, value in vars(machine).items() if name != "_setting"})


def choices_before_an_ask(setting, waits, stops):
    """Lists of events that may stand before an ask: a wait, all clocks and delays, a change, an order, a stop."""
    hops = range(1, setting.hops + 1)
    clocks = [[("clock", hop, offset) for offset in range(-clock.behind, clock.ahead + 1)] if clock.span else [None]
              for hop, clock in enumerate(setting.clocks, 1)]
    delays = [[("delay", hop, d) for d in range(most + 1)] if most else [None]
              for hop, most in enumerate(setting.delays, 1)]
    ticks = [None] + [("wait", t) for t in range(1, waits + 1)]
    orders = [None] + [("lose", hop, way) for hop in hops for way in ("up", "back") if setting.loses]
    ends = [None] + [("stop", hop) for hop in hops if stops]
    for events in itertools.product(ticks, *clocks, *delays, orders, ends, (("behind",), ("change",), None)):
        yield [event for event in events if event is not None]


def greatest_latenesses(setting, asks, waits, wishes=(None, -1, 0, 1), stops=False):
    """For each number of asks the greatest lateness at any hop, and for each wish that of a last ask at hop 1."""
    choices = list(choices_before_an_ask(setting, waits, stops))
    machines = {None: Machine(setting)}
    latest = []
    by_wish = {}
    for count in range(asks):
        behind = {}
        found = [0]
        for machine in machines.values():
            for events in choices:
                ready = machine.copy()
                ready.run(events)
                for hop, wish in itertools.product(range(1, setting.hops + 1), wishes):
                    twin = ready.copy()
                    telling = twin.play(("ask", hop, wish))
                    if telling is not None:
                        found.append(telling[0])
                        if hop == 1:
                            by_wish[wish] = max(by_wish.get(wish, 0), telling[0])
                    if count < asks - 1:
                        behind[key_of(twin)] = twin
        latest.append(max(found + latest))
        machines = behind
    return latest, by_wish
