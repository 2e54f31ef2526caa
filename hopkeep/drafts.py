"""Messages of which a reader has read only a part."""

from hopkeep.fields import is_field_name, is_path, is_value, read_number
from hopkeep.messages import Message, Request, Response

CHUNKS = "chunks"
OPEN_END = "open"


class Draft:
    """A message of which the start line is known; the rest is added as it is read."""

    def __init__(self, head):
        self._head = head
        self._framing = None
        self._total = 0
        self._fields = []
        self._texts = []

    def take_field(self, line):
        """Adds a field line or the framing line; returns the kind of its fault or None."""
        name, colon, rest = line.partition(":")
        name = name.lower()
        value = rest.strip(" ")
        if colon == "":
            return "field"
        if name == "length":
            return self._take_framing(value)
        if not is_field_name(name) or not is_value(value):
            return "field"
        if len(self._fields) == Message.MOST_FIELDS:
            return "many"
        self._fields.append((name, value))
        return None

    def _take_framing(self, value):
        number = read_number(value)
        # A message with a trailer has a framing line already, so this refuses one in a trailer, too.
        if self._framing is not None or (number is None and value != CHUNKS):
            return "length"
        if not self._head.may_have_body and number != 0:
            return "length"
        if number is not None and number > Message.MOST_BODY:
            return "long"
        self._framing = CHUNKS if number is None else number
        return None

    def framing(self):
        """How the body is framed: CHUNKS, OPEN_END or the number of its characters."""
        if self._framing is not None:
            return self._framing
        if isinstance(self._head, Response) and self._head.may_have_body:
            return OPEN_END
        return 0

    def take_size(self, size):
        """Adds the size of a chunk; returns the kind of its fault or None."""
        self._total += size
        if self._total > Message.MOST_BODY:
            return "long"
        return None

    def add_text(self, text):
        """Adds characters of the body."""
        self._texts.append(text)

    def message(self):
        """The message, when all of it was read."""
        return self._head.remade(self._fields, "".join(self._texts))


def read_start(side, line):
    """The message without fields that a start line begins, None if the line is not valid."""
    words = line.split(" ")
    if side == "asks":
        if len(words) == 3 and words[0] == "ask" and words[1] in Request.METHODS and is_path(words[2]):
            return Request(words[1], words[2])
    elif len(words) == 2 and words[0] == "answer" and words[1] in Response.STATUSES:
        return Response(words[1])
    return None
