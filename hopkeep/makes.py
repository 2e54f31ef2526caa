"""Makes, which tell how caches behave."""

from hopkeep.errors import InvalidValue

MOST_SHARE = 100
MOST_ROOM = 100


class Make:
    """How a cache behaves."""

    def __init__(self, *, shared=True, grace=0, error_grace=0, tells=True, dates=False, checks=True,
                 share=0, cap=0, durable=False, room=8):
        if grace is not None and grace < 0:
            raise InvalidValue("grace")
        if error_grace < 0:
            raise InvalidValue("error_grace")
        if not 0 <= share <= MOST_SHARE:
            raise InvalidValue("share")
        if cap < 0:
            raise InvalidValue("cap")
        if not 1 <= room <= MOST_ROOM:
            raise InvalidValue("room")
        self.shared = shared
        self.grace = grace
        self.error_grace = error_grace
        self.tells = tells
        self.dates = dates
        self.checks = checks
        self.share = share
        self.cap = cap
        self.durable = durable
        self.room = room

    def but(self, **settings):
        """A make of the same class in which these settings are replaced."""
        found = settings_of(self)
        for name in settings:
            if name not in found:
                raise InvalidValue(name)
        found.update(settings)
        return make_like(self, found)

    def lifetime(self, directives, date, changed):
        """For how many ticks an answer is fresh."""
        if self.shared and directives.shared_lasts is not None:
            return directives.shared_lasts
        if directives.lasts is not None:
            return directives.lasts
        if date is None or changed is None:
            return 0
        return min(self.share * max(0, date - changed) // 100, self.cap)

    def keeps(self, wish, directives):
        """True if an answer with these directives to a request with this wish may be kept."""
        if wish.never or directives.never:
            return False
        return not (directives.own and self.shared)

    def allowance(self, wish, directives):
        """How late a kept answer may be served, None if there is no limit."""
        if directives.strict:
            return 0
        if self.grace is None or wish.any_late:
            return None
        return max(self.grace, directives.late or 0, wish.late or 0)

    def error_allowance(self, wish, directives):
        """How late it may be served if no answer comes from further up, None if there is no limit."""
        if directives.strict:
            return 0
        usual = self.allowance(wish, directives)
        if usual is None:
            return None
        return max(usual, self.error_grace, directives.on_error or 0)

    def initial_age(self, told, date, arrived):
        """The age with which an answer counts when it arrives."""
        if self.dates and date is not None:
            return max(told, arrived - date)
        return told

    def use(self, wish, directives, age, lifetime):
        """What may be done with a kept answer: fresh, late or check."""
        if wish.check or directives.check or (wish.age is not None and age > wish.age):
            return "check"
        if wish.fresh is not None:
            return "fresh" if age + wish.fresh < lifetime else "check"
        if age < lifetime:
            return "fresh"
        return "late" if is_within(age, lifetime, self.allowance(wish, directives)) else "check"

    def error_use(self, wish, directives, age, lifetime):
        """True if a kept answer may be served when no answer comes from further up."""
        if wish.check or directives.check or wish.fresh is not None:
            return False
        if wish.age is not None and age > wish.age:
            return False
        return is_within(age, lifetime, self.error_allowance(wish, directives))

    def __eq__(self, other):
        return (isinstance(other, Make) and self.__class__.__name__ == other.__class__.__name__
                and settings_of(self) == settings_of(other))


class StrictMake(Make):
    """A make that never serves a late answer."""

    def __init__(self, *, shared=True, grace=0, error_grace=0, tells=True, dates=False, checks=True,
                 share=0, cap=0, durable=False, room=8):
        Make.__init__(self, shared=shared, grace=grace, error_grace=error_grace, tells=tells, dates=dates,
                      checks=checks, share=share, cap=cap, durable=durable, room=room)

    def allowance(self, wish, directives):
        """How late a kept answer may be served: never."""
        return 0

    def error_allowance(self, wish, directives):
        """How late it may be served if no answer comes from further up: never."""
        return 0


class OwnMake(Make):
    """The make of one reader's own cache."""

    def __init__(self, *, shared=False, grace=0, error_grace=0, tells=True, dates=False, checks=True,
                 share=0, cap=0, durable=False, room=8):
        if shared:
            raise InvalidValue("shared")
        Make.__init__(self, shared=shared, grace=grace, error_grace=error_grace, tells=tells, dates=dates,
                      checks=checks, share=share, cap=cap, durable=durable, room=room)


def is_within(age, lifetime, allowance):
    """True if an answer of this age is at most so many ticks late."""
    return allowance is None or age < lifetime + allowance


def settings_of(make):
    """The settings of a make by the names of the parameters."""
    return {"shared": make.shared, "grace": make.grace, "error_grace": make.error_grace,
            "tells": make.tells, "dates": make.dates, "checks": make.checks, "share": make.share,
            "cap": make.cap, "durable": make.durable, "room": make.room}


def make_like(make, settings):
    """A make of the class of another one."""
    if isinstance(make, StrictMake):
        return StrictMake(**settings)
    if isinstance(make, OwnMake):
        return OwnMake(**settings)
    return Make(**settings)
