"""The lines of a desk, which are read as events."""

from hopkeep.fields import is_path, is_value, read_number, read_reading
from hopkeep.messages import Request, is_body

# For each word the kinds of the parts that follow it.
PARTS = {
    "wait": ("number",),
    "clock": ("number", "reading"),
    "delay": ("number", "number"),
    "change": ("path", "text"),
    "alike": ("path", "text"),
    "behind": ("path", "text"),
    "lose": ("number", "way"),
    "clip": ("number", "number"),
    "stop": ("number",),
    "get": ("number", "path"),
    "put": ("number", "path", "text"),
    "delete": ("number", "path"),
}
GET_WITH_KEEP = ("number", "path", "keep")


def read_line(text):
    """The event of a line, None if it has none of the forms or holds what no message may have."""
    word, _, rest = text.partition(" ")
    kinds = PARTS.get(word)
    if kinds is None:
        return None
    if word == "get" and rest.count(" ") > 1:
        kinds = GET_WITH_KEEP
    # Only the last part may contain spaces.
    parts = rest.split(" ", len(kinds) - 1)
    if len(parts) != len(kinds):
        return None
    values = [read_part(kind, part) for kind, part in zip(kinds, parts)]
    if any([value is None for value in values]):
        return None
    return event_of(word, values)


def read_part(kind, part):
    """The value of one part of a line, None if the part is not of its kind."""
    if kind == "number":
        return read_number(part)
    if kind == "reading":
        return read_reading(part)
    return part if is_text_of(kind, part) else None


def is_text_of(kind, part):
    """True if a part that is no number is of its kind."""
    if kind == "path":
        return is_path(part)
    if kind == "text":
        return is_body(part)
    if kind == "keep":
        return part != "" and is_value(part)
    return part != "" and " " not in part


def event_of(word, values):
    """The event for the word and the values of a line."""
    if word == "get":
        hop, path, *keep = values
        fields = [("keep", value) for value in keep]
        return ("ask", hop, Request.fetch(path, *fields))
    if word == "put":
        hop, path, body = values
        return ("ask", hop, Request("put", path, (), body))
    if word == "delete":
        hop, path = values
        return ("ask", hop, Request("delete", path))
    return (word, *values)
