"""Stories: events of a row with a single path, whose contents are all different."""

from hopkeep.errors import InvalidEvent
from hopkeep.events import CHANGES, allows_change, is_allowed, is_event, is_number
from hopkeep.messages import Request

PLACE = "/"
FIRST_TEXT = "first"
# The age of an ask that wants a check.
CHECK = -1
MOST_AGE = 999999


def is_story_event(setting, event):
    """True if the value is an event of a story that the setting allows; it may be of any kind."""
    if not isinstance(event, tuple) or len(event) == 0:
        return False
    name = event[0]
    if name in CHANGES:
        return len(event) == 1 and allows_change(setting, name)
    if name == "ask":
        return len(event) == 3 and is_hop(setting, event[1]) and is_wish(event[2])
    return name != "clip" and is_event(event) and is_allowed(setting, event)


def is_hop(setting, item):
    """True if the value is the number of a hop."""
    return is_number(item) and 1 <= item <= setting.hops


def is_wish(item):
    """True if the value may be the age of an ask."""
    return item is None or (is_number(item) and CHECK <= item <= MOST_AGE)


def check_story(setting, story):
    """Raises InvalidEvent for the first event that the setting does not allow."""
    for index, event in enumerate(story):
        if not is_story_event(setting, event):
            raise InvalidEvent(index)


def row_event(event, text):
    """The event of a row for an event of a story; the text is the new content of a change."""
    if event[0] in CHANGES:
        return (event[0], PLACE, text)
    if event[0] == "ask":
        return ("ask", event[1], request_of(event[2]))
    return event


def request_of(wish):
    """The get of an ask with this age."""
    if wish is None:
        return Request.fetch(PLACE)
    return Request.fetch(PLACE, ("keep", "check" if wish == CHECK else f"age={wish}"))
