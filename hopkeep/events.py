"""The events of a row: their forms, and what a setting allows."""

from hopkeep.fields import is_path
from hopkeep.messages import Request, is_body

MOST_WAIT = 100000
CHANGES = ("change", "alike", "behind")
WAYS = ("up", "back")

# For each event the kinds of the items that follow its name.
FORMS = {
    "wait": ("number",),
    "clock": ("number", "number"),
    "delay": ("number", "number"),
    "change": ("text", "text"),
    "alike": ("text", "text"),
    "behind": ("text", "text"),
    "lose": ("number", "text"),
    "clip": ("number", "number"),
    "stop": ("number",),
    "ask": ("number", "request"),
}


def is_event(event):
    """True if the value has the form of an event; it may be of any kind."""
    if not isinstance(event, tuple) or len(event) == 0 or not isinstance(event[0], str):
        return False
    kinds = FORMS.get(event[0])
    if kinds is None or len(event) != len(kinds) + 1:
        return False
    return all([is_of_kind(item, kind) for item, kind in zip(event[1:], kinds)])


def is_of_kind(item, kind):
    """True if an item of an event is a number, a text or a request, as its kind says."""
    if kind == "number":
        return is_number(item)
    if kind == "text":
        return isinstance(item, str)
    return isinstance(item, Request)


def is_number(item):
    """True for an integer; True and False are none."""
    return isinstance(item, int) and not isinstance(item, bool)


def is_allowed(setting, event):
    """True if a setting allows an event that has its form, whatever the contents are at present."""
    name = event[0]
    if name == "wait":
        return 1 <= event[1] <= MOST_WAIT
    if name in CHANGES:
        return is_path(event[1]) and is_body(event[2]) and allows_change(setting, name)
    hop = event[1]
    if name == "clock":
        return 1 <= hop <= setting.hops + 1 and setting.clocks[hop - 1].allows(event[2])
    if not 1 <= hop <= setting.hops:
        return False
    if name == "delay":
        return 0 <= event[2] <= setting.delays[hop - 1]
    if name == "lose":
        return setting.loses and event[2] in WAYS
    if name == "clip":
        return setting.loses and event[2] >= 0
    return True


def allows_change(setting, name):
    """True if contents may change by events of this name."""
    return name != "alike" or setting.kind.mark == "weak"
