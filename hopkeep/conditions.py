"""The conditions of requests."""

from hopkeep.errors import InvalidMark
from hopkeep.fields import read_reading
from hopkeep.marks import MarkList, read_mark


class Current:
    """What is at a path at present."""

    def __init__(self, mark, changed):
        self.mark = mark
        self.changed = changed


class Conditions:
    """The conditions of one request; called with what is there, they tell what to do."""

    def __init__(self, request):
        self._method = request.method
        self._if_mark = read_marks_field(request, "if-mark")
        self._if_no_mark = read_marks_field(request, "if-no-mark")
        self._if_unchanged = read_reading_field(request, "if-unchanged")
        self._if_changed = read_reading_field(request, "if-changed")
        self._if_part = request.joined("if-part")

    @classmethod
    def of(cls, request):
        """The conditions of a request."""
        return cls(request)

    @property
    def none(self):
        """True if nothing depends on what is there, except perhaps a range."""
        return (self._if_mark is None and self._if_no_mark is None
                and self._if_unchanged is None and self._if_changed is None)

    @property
    def binding(self):
        """True if the request must fail where something else is there."""
        return self._if_mark is not None or self._if_unchanged is not None

    def __call__(self, current):
        """What the request asks for if this is there: go, same or failed."""
        if not self._holds(current):
            return "failed"
        if self._if_no_mark is not None:
            if current is None or not self._if_no_mark.weakly(current.mark):
                return "go"
            return "same" if self._method == "get" else "failed"
        if self._method == "get" and self._is_unchanged(current):
            return "same"
        return "go"

    def takes_part(self, current):
        """True if a range of the request applies."""
        if self._if_part is None:
            return True
        if current is None:
            return False
        mark = read_mark(self._if_part)
        if mark is not None:
            return current.mark is not None and mark.strongly(current.mark)
        reading = read_reading(self._if_part)
        return reading is not None and reading == current.changed

    def _holds(self, current):
        """True if the binding conditions hold; with if-mark the reading is not looked at."""
        if self._if_mark is not None:
            return current is not None and self._if_mark.strongly(current.mark)
        if self._if_unchanged is None:
            return True
        if current is None:
            return False
        return current.changed is None or current.changed <= self._if_unchanged

    def _is_unchanged(self, current):
        """True if there is content that is known not to have changed since the reading of if-changed."""
        if self._if_changed is None or current is None or current.changed is None:
            return False
        return current.changed <= self._if_changed


def read_marks_field(request, name):
    """The list of marks in a field, None if the field is absent."""
    text = request.joined(name)
    if text is None:
        return None
    try:
        return MarkList.read(text)
    except InvalidMark:
        # A list that cannot be read is present, but it matches nothing.
        return MarkList([])


def read_reading_field(message, name):
    """The reading in a field, None if there is none."""
    text = message.joined(name)
    if text is None:
        return None
    return read_reading(text)


def without_own(request):
    """The request without what asks for less than the whole content."""
    return request.without("if-no-mark", "if-changed", "range", "if-part")


def checking(request, mark, changed):
    """The request for the whole content unless it still is the version with this mark or change."""
    plain = without_own(request)
    if mark is not None:
        return plain.with_field("if-no-mark", str(mark))
    if changed is not None:
        return plain.with_field("if-changed", str(changed))
    return plain
