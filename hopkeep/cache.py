"""One cache, which answers requests or passes them on."""

from hopkeep.conditions import Conditions, checking, without_own
from hopkeep.directives import Directives
from hopkeep.errors import InvalidParts, NoTicket
from hopkeep.fields import is_path, list_elements
from hopkeep.kept import Kept, arrival_age
from hopkeep.messages import Response
from hopkeep.ranges import read_parts, write_ranges
from hopkeep.shelf import Shelf

MOST_PAIRS = 10
# The forms of a ticket. One that is checked has the last form if a condition was passed on.
PLAIN = "plain"
BINDING = "binding"
FILLED = "filled"
CHECKED = "checked"
WITH_CONDITION = "with-condition"


class Ticket:
    """A request from below that was passed on and is not answered yet."""

    def __init__(self, request, form, kept):
        self.request = request
        self.form = form
        # The number of the kept answer that is filled or checked.
        self.kept = kept
        # The answer to a stained ticket is not kept, since it may be older than what dropped the kept ones.
        self.stained = False


class Cache:
    """A cache, which is told of requests from below and answers from above, and returns steps."""

    def __init__(self, make):
        self.make = make
        self._shelf = Shelf(make.room)
        self._tickets = {}
        self._given = 0

    @property
    def many(self):
        """The number of kept answers."""
        return len(self._shelf.answers)

    @property
    def open_tickets(self):
        """The tickets that are not answered yet, in ascending order."""
        return list(self._tickets)

    def __contains__(self, path):
        return any([kept.path == path for kept in self._shelf.answers.values()])

    def ask(self, request, now):
        """The step for a request from below."""
        if request.method != "get":
            return self._up(request, request, PLAIN, None)
        if Conditions.of(request).binding:
            return self._up(request, request, BINDING, None)
        wish = Directives.of(request)
        kept = self._shelf.select(request)
        if kept is None:
            return ("tell", Response("unkept")) if wish.kept else self._up(request, request, PLAIN, None)
        use = self.make.use(wish, kept.directives, kept.age_at(now), kept.lasting())
        response = None if use == "check" else self._told(request, kept, now)
        if response is not None:
            return ("tell", response)
        if wish.kept:
            return ("tell", Response("unkept"))
        return self._check(request, kept) if use == "check" else self._fill(request, kept)

    def answer(self, ticket, response, now):
        """The step for the answer that belongs to a ticket, None for a lost one."""
        if ticket not in self._tickets:
            raise NoTicket(ticket)
        asked = self._tickets.pop(ticket)
        if asked.request.method != "get":
            return self._answer_write(asked.request, response)
        if asked.form == BINDING:
            return ("tell", Response("error") if response is None else self._passed_on(response, now))
        if is_no_answer(response):
            return self._answer_error(asked, now)
        if response.status == "same" and asked.form == WITH_CONDITION:
            return self._answer_same(asked, response, now)
        if response.status == "ok":
            return self._answer_ok(asked, response, now)
        if response.status == "part":
            return self._answer_part(asked, response, now)
        if response.status == "missing":
            self._shelf.drop(asked.request.path)
        return ("tell", self._passed_on(response, now))

    def drop(self, path):
        """Drops the kept answers with a path and stains the open gets of it; the number of answers dropped."""
        for asked in self._tickets.values():
            if asked.request.method == "get" and asked.request.path == path:
                asked.stained = True
        return self._shelf.drop(path)

    def stop(self):
        """Closes all tickets; the kept answers stay only if the make is durable."""
        self._tickets = {}
        if not self.make.durable:
            self._shelf.empty()

    def listed(self, now):
        """A tuple (path, key, age, lifetime, whole) for each kept answer, in the order of storing."""
        return [(kept.path, kept.key, kept.age_at(now), kept.lasting(), kept.content.whole)
                for kept in self._shelf.answers.values()]

    def _up(self, passed, request, form, kept):
        """Passes a request on and opens a ticket for the one that came from below."""
        self._given += 1
        self._tickets[self._given] = Ticket(request, form, kept)
        return ("up", passed, self._given)

    def _told(self, request, answer, now):
        """The response to a get from an answer, None if that is not possible."""
        response = answer.tell(request, now)
        if response is not None:
            self._shelf.note_use(answer)
        return response

    def _fill(self, request, kept):
        """Asks for what a kept answer lacks."""
        passed = without_own(request)
        missing = kept.missing_for(request)
        if kept.mark is not None and len(missing) <= MOST_PAIRS:
            passed = passed.with_field("range", write_ranges(missing)).with_field("if-part", str(kept.mark))
        return self._up(passed, request, FILLED, kept.number)

    def _check(self, request, kept):
        """Asks whether a kept answer still is what is there."""
        if not self.make.checks:
            return self._up(without_own(request), request, CHECKED, kept.number)
        known = kept.mark is not None or kept.changed is not None
        passed = checking(request, kept.mark, kept.changed)
        return self._up(passed, request, WITH_CONDITION if known else CHECKED, kept.number)

    def _ask_anew(self, request):
        """Asks for the whole content as if nothing had been kept."""
        return self._up(without_own(request), request, PLAIN, None)

    def _passed_on(self, response, now):
        """An answer as it is told without being told from content."""
        if response.status not in ("ok", "part", "same"):
            return response
        plain = response.without("age")
        if not self.make.tells:
            return plain
        return plain.with_field("age", str(arrival_age(self.make, response, now)))

    def _may_keep(self, asked, answer):
        """True if the answer to a ticket may be kept."""
        if asked.stained or answer.names is None:
            return False
        return self.make.keeps(Directives.of(asked.request), answer.directives)

    def _answer_write(self, request, response):
        told = Response("error") if response is None else response
        if told.status in ("done", "error"):
            self.drop(request.path)
        if told.status == "done":
            for path in list_elements(told.joined("also") or ""):
                if is_path(path):
                    self.drop(path)
        return ("tell", told)

    def _answer_error(self, asked, now):
        """No answer came from further up: a kept answer may be told instead."""
        kept = self._shelf.still(asked.kept)
        response = None
        if kept is not None:
            wish = Directives.of(asked.request)
            if self.make.error_use(wish, kept.directives, kept.age_at(now), kept.lasting()):
                response = self._told(asked.request, kept, now)
        return ("tell", Response("error") if response is None else response)

    def _answer_same(self, asked, response, now):
        """The kept answer that was checked still is what is there."""
        kept = self._shelf.still(asked.kept)
        if kept is None:
            return self._ask_anew(asked.request)
        self._shelf.refresh(kept, response, now)
        told = self._told(asked.request, kept, now)
        return self._fill(asked.request, kept) if told is None else ("tell", told)

    def _answer_ok(self, asked, response, now):
        answer = Kept(self.make, asked.request, response, now)
        if self._may_keep(asked, answer):
            self._shelf.store(answer)
        return ("tell", self._told(asked.request, answer, now))

    def _answer_part(self, asked, response, now):
        answer = Kept(self.make, asked.request, response, now)
        kept = None
        if answer.mark is not None and not answer.mark.weak and self._may_keep(asked, answer):
            kept = self._shelf.store_part(answer, response, now)
        if asked.form == PLAIN:
            return ("tell", self._passed_on(response, now))
        told = None if kept is None else self._told(asked.request, kept, now)
        return self._ask_anew(asked.request) if told is None else ("tell", told)


def is_no_answer(response):
    """True for a lost answer, an error, and parts that cannot be read."""
    if response is None or response.status == "error":
        return True
    if response.status != "part":
        return False
    try:
        read_parts(response)
    except InvalidParts:
        return True
    return False
