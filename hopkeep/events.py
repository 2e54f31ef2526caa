"""The forms of the events of a row."""

from hopkeep.messages import Request

# For each event the kinds of the items that follow its name.
FORMS = {
    "wait": ("number",),
    "clock": ("number", "number"),
    "delay": ("number", "number"),
    "change": ("text", "text"),
    "alike": ("text", "text"),
    "behind": ("text", "text"),
    "lose": ("number", "text"),
    "clip": ("number", "number"),
    "stop": ("number",),
    "ask": ("number", "request"),
}


def is_event(event):
    """True if the value has the form of an event; it may be of any kind."""
    if not isinstance(event, tuple) or len(event) == 0 or not isinstance(event[0], str):
        return False
    kinds = FORMS.get(event[0])
    if kinds is None or len(event) != len(kinds) + 1:
        return False
    return all([is_of_kind(item, kind) for item, kind in zip(event[1:], kinds)])


def is_of_kind(item, kind):
    """True if an item of an event is a number, a text or a request, as its kind says."""
    if kind == "number":
        return isinstance(item, int) and not isinstance(item, bool)
    if kind == "text":
        return isinstance(item, str)
    return isinstance(item, Request)
