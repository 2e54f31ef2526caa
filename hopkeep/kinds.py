"""Kinds, which tell how the origin describes a content."""

from hopkeep.directives import Directives
from hopkeep.errors import InvalidValue, NoLifetime

MOST_NUMBER = 999999
MARK_KINDS = ("strong", "weak", "none")


class Kind:
    """How the origin describes a content."""

    def __init__(self, lasts, *, shared_lasts=None, late=0, on_error=0, strict=False, check=False, own=False,
                 never=False, mark="strong", dated=False, margin=0):
        for name, number in (("lasts", lasts), ("shared_lasts", shared_lasts)):
            if number is not None and not is_amount(number):
                raise InvalidValue(name)
        for name, number in (("late", late), ("on_error", on_error)):
            if not is_amount(number):
                raise InvalidValue(name)
        if mark not in MARK_KINDS:
            raise InvalidValue("mark")
        if not is_amount(margin):
            raise InvalidValue("margin")
        self.lasts = lasts
        self.shared_lasts = shared_lasts
        self.late = late
        self.on_error = on_error
        self.strict = strict
        self.check = check
        self.own = own
        self.never = never
        self.mark = mark
        self.dated = dated
        self.margin = margin

    def keep_field(self):
        """The value of the keep field, empty if there is no directive."""
        numbers = (("lasts", self.lasts), ("shared-lasts", self.shared_lasts), ("late", self.late or None),
                   ("on-error", self.on_error or None))
        flags = (("strict", self.strict), ("check", self.check), ("own", self.own), ("never", self.never))
        parts = [f"{name}={number}" for name, number in numbers if number is not None]
        return ", ".join(parts + [name for name, told in flags if told])


def is_amount(number):
    """True if the number is allowed in a kind."""
    return 0 <= number <= MOST_NUMBER


def is_kept(make, kind):
    """True if a make keeps the answer to a plain request."""
    return make.keeps(Directives.read(None), Directives.read(kind.keep_field()))


def serve_limit(make, kind, *, on_error=False):
    """The age from which a kept answer is not served to a plain request, None if there is no limit."""
    if kind.lasts is None and (kind.shared_lasts is None or not make.shared):
        raise NoLifetime()
    if kind.check or not is_kept(make, kind):
        return 0
    wish = Directives.read(None)
    directives = Directives.read(kind.keep_field())
    if on_error:
        allowance = make.error_allowance(wish, directives)
    else:
        allowance = make.allowance(wish, directives)
    if allowance is None:
        return None
    return make.lifetime(directives, None, None) + allowance
