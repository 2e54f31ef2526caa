"""Answers with content, as a cache keeps them."""

from hopkeep.ages import current_age, told_age
from hopkeep.conditions import Conditions, Current, read_reading_field
from hopkeep.directives import Directives
from hopkeep.errors import Mixed, NotJoinable
from hopkeep.keys import key_of, varied_names
from hopkeep.marks import read_mark
from hopkeep.messages import Response
from hopkeep.partial import Partial
from hopkeep.ranges import read_parts
from hopkeep.spans import Spans
from hopkeep.telling import tell_content, wanted_positions


class Kept:
    """An answer that has just arrived for a request, or that has been kept since."""

    def __init__(self, make, request, response, now):
        self.make = make
        self.path = request.path
        self.names = varied_names(response)
        self.key = None if self.names is None else key_of(self.names, request)
        # A shelf that keeps the answer gives it a number and counts its uses.
        self.number = None
        self.last_use = None
        self._take_fields(response.without("age", "part", "parts").fields, response, now)
        self.content = content_of(response, self.mark)

    def _take_fields(self, fields, response, now):
        """Takes the fields that it has from now on, and the age of the response that brought them."""
        # Without a body a response holds the fields alone.
        self.head = Response("same", fields)
        self.mark = read_mark_field(self.head)
        self.changed = read_reading_field(self.head, "changed")
        self.date = read_reading_field(self.head, "date")
        self.directives = Directives.of(self.head)
        self.initial = arrival_age(self.make, response, now)
        self.arrived = now

    def refresh(self, response, now):
        """Takes what a response tells of the same content."""
        news = response.without("age", "part", "parts", "varies").fields
        names = [name for name, _ in news]
        old = [field for field in self.head.fields if field[0] not in names]
        self._take_fields(old + news, response, now)
        # Parts are joined by the marks of the answers, and the response may have told another one.
        content = self.content
        content.mark = self.mark

    def takes_content(self, other):
        """Adds the content of another answer if it surely is of the same version; tells whether it did."""
        try:
            self.content = self.content.joined(other.content)
        except (NotJoinable, Mixed):
            return False
        return True

    def age_at(self, now):
        """The current age."""
        return current_age(self.initial, self.arrived, now)

    def lasting(self):
        """The lifetime."""
        return self.make.lifetime(self.directives, self.date, self.changed)

    def missing_for(self, request):
        """The positions that are needed to tell a get from this answer and are not kept."""
        current = Current(self.mark, self.changed)
        conditions = Conditions.of(request)
        if conditions(current) == "same":
            return Spans()
        return wanted_positions(request, current, self.content.length) - self.content.have()

    def tell(self, request, now):
        """The response to a get from this answer, None if that is not possible."""
        if self.missing_for(request):
            return None
        status, more, body = tell_content(request, Current(self.mark, self.changed), padded(self.content))
        fields = [*self.head.fields, *more]
        if self.make.tells:
            fields.append(("age", str(self.age_at(now))))
        return Response(status, fields, body)


def read_mark_field(message):
    """The mark of an answer, None if it has none."""
    text = message.joined("mark")
    return None if text is None else read_mark(text)


def arrival_age(make, response, now):
    """The age with which a response counts when it arrives."""
    return make.initial_age(told_age(response), read_reading_field(response, "date"), now)


def content_of(response, mark):
    """The content of an answer with the status ok or part, as far as the answer has it."""
    if response.status == "part":
        length, pieces = read_parts(response)
    else:
        length, pieces = len(response.body), [(0, response.body)]
    content = Partial(mark, length)
    for start, text in pieces:
        content.put(start, text)
    return content


def padded(content):
    """The text of a Partial with spaces where nothing is kept."""
    pieces = []
    at = 0
    for start, end in content.have().pairs():
        pieces.extend([" " * (start - at), content.stretch(start, end)])
        at = end
    return "".join([*pieces, " " * (content.length - at)])
