"""The directives of keep fields."""

from hopkeep.fields import list_elements, read_number


class Directives:
    """The directives of one message; the parts are the elements of its keep field."""

    def __init__(self, parts):
        self.lasts = least_lifetime(parts, "lasts")
        self.shared_lasts = least_lifetime(parts, "shared-lasts")
        self.late = least_number(parts, "late")
        self.on_error = least_number(parts, "on-error")
        self.age = least_number(parts, "age")
        self.fresh = least_number(parts, "fresh")
        self.strict = "strict" in parts
        self.check = "check" in parts
        self.own = "own" in parts
        self.never = "never" in parts
        self.kept = "kept" in parts
        self.any_late = "late" in parts and self.late is None

    @staticmethod
    def read(text):
        """The directives of the value of a keep field; None stands for no field."""
        if text is None:
            return Directives([])
        return Directives(list_elements(text))

    @classmethod
    def of(cls, message):
        """The directives of a message."""
        return cls.read(message.joined("keep"))


def least_number(parts, name):
    """The least number that a directive has, None if it stands nowhere with a number."""
    sign = name + "="
    numbers = [read_number(part.removeprefix(sign)) for part in parts if part.startswith(sign)]
    return min([number for number in numbers if number is not None], default=None)


def least_lifetime(parts, name):
    """The same for a lifetime, for which a missing or bad number counts as 0."""
    # Who cannot read how long an answer lasts must not take it for fresh.
    if name in parts or any([is_without_number(part, name + "=") for part in parts]):
        return 0
    return least_number(parts, name)


def is_without_number(part, sign):
    """True if an element begins with this sign and does not go on with a digit string."""
    return part.startswith(sign) and read_number(part.removeprefix(sign)) is None
