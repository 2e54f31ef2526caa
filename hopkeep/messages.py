"""Requests and responses."""

from hopkeep.errors import InvalidValue
from hopkeep.fields import is_field_name, is_path, is_plain_lines, is_value


class Message:
    """What requests and responses have in common; it is not created itself."""

    MOST_FIELDS = 40
    MOST_BODY = 100000

    def __init__(self, first_line, has_body, fields, body):
        if not are_fields(fields):
            raise InvalidValue("fields")
        if not is_body(body) or (body != "" and not has_body):
            raise InvalidValue("body")
        self._first_line = first_line
        self._has_body = has_body
        self.fields = [(name, value) for name, value in fields]
        self.body = body

    def value(self, name):
        """The value of the first field of the name, or None."""
        for own, value in self.fields:
            if own == name:
                return value
        return None

    def all_values(self, name):
        """The values of the fields of the name, in order."""
        return [value for own, value in self.fields if own == name]

    def joined(self, name):
        """The values of the name joined to one, or None if there are none."""
        found = self.all_values(name)
        if not found:
            return None
        return ", ".join(found)

    def with_field(self, name, value):
        """The message with this field at the end instead of all others of the name."""
        others = [field for field in self.fields if field[0] != name]
        return self.remade([*others, (name, value)], self.body)

    def without(self, *names):
        """The message without the fields of these names."""
        return self.remade([field for field in self.fields if field[0] not in names], self.body)

    def remade(self, fields, body):
        """The message with the same start line and other fields and another body."""
        raise NotImplementedError("a message is a request or a response")

    @property
    def may_have_body(self):
        """True if messages with this start line may have a body."""
        return self._has_body

    @property
    def start(self):
        """The start line without its newline."""
        return self._first_line

    def __str__(self):
        return str(self._first_line)

    def __eq__(self, other):
        # The first word of the start line tells the class.
        return (isinstance(other, Message) and self._first_line == other._first_line
                and self.fields == other.fields and self.body == other.body)


class Request(Message):
    """A question for the content at a path, or a change of it."""

    METHODS = ("get", "put", "delete")

    def __init__(self, method, path, fields=(), body=""):
        if method not in Request.METHODS:
            raise InvalidValue("method")
        if not is_path(path):
            raise InvalidValue("path")
        Message.__init__(self, f"ask {method} {path}", method == "put", fields, body)
        self.method = method
        self.path = path

    @classmethod
    def fetch(cls, path, *fields):
        """The get with this path and these pairs as fields."""
        return cls("get", path, fields)

    def remade(self, fields, body):
        """The request with other fields and another body."""
        return Request(self.method, self.path, fields, body)


class Response(Message):
    """The answer to a request."""

    STATUSES = ("ok", "part", "same", "done", "missing", "failed", "norange", "unkept", "error")

    def __init__(self, status, fields=(), body=""):
        if status not in Response.STATUSES:
            raise InvalidValue("status")
        Message.__init__(self, f"answer {status}", status not in ("same", "done"), fields, body)
        self.status = status

    def remade(self, fields, body):
        """The response with other fields and another body."""
        return Response(self.status, fields, body)


def are_fields(fields):
    """True if these pairs are allowed as the fields of a message."""
    if len(fields) > Message.MOST_FIELDS:
        return False
    return all([is_field_name(name) and is_value(value) for name, value in fields])


def is_body(text):
    """True if the text is allowed as the body of a message that may have one."""
    return len(text) <= Message.MOST_BODY and is_plain_lines(text)
