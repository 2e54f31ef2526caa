"""The origin, which holds the contents."""

from hopkeep.conditions import Conditions, Current
from hopkeep.errors import InvalidValue, NothingThere
from hopkeep.fields import is_path
from hopkeep.marks import Mark, settled
from hopkeep.messages import Response
from hopkeep.telling import tell_content
from hopkeep.variants import WANT_FIELDS, Variant, choose


class Page:
    """What is and was at one path."""

    def __init__(self):
        # Without variants there is nothing at the path.
        self.variants = []
        self.version = 0
        self.epoch = 0
        self.changed = None
        # The last moment at which a content was there, for the contents that were replaced or removed.
        self.last_seen = {}

    def put_variants(self, variants, now, alike, time):
        """Puts other variants in the place of the present ones."""
        self.remove_variants(time)
        self.variants = list(variants)
        self.version += 1
        if not alike:
            self.epoch += 1
        self.changed = now

    def remove_variants(self, time):
        """Removes the content."""
        for variant in self.variants:
            self.last_seen[variant.content] = time
        self.variants = []

    def lateness(self, text, time):
        """How long ago a content was there, None if it never was."""
        if any([variant.content == text for variant in self.variants]):
            return 0
        if text not in self.last_seen:
            return None
        return time - self.last_seen[text]


class Origin:
    """Holds contents of one kind at paths."""

    def __init__(self, kind):
        self.kind = kind
        self._pages = {}

    @property
    def paths(self):
        """The paths with content, in ascending order."""
        return sorted([path for path, page in self._pages.items() if page.variants])

    def place(self, path, variants, now, *, time=0):
        """Puts one or more variants at a path."""
        if not is_path(path):
            raise InvalidValue("path")
        if not variants:
            raise InvalidValue("variants")
        self._put(path, variants, now, False, time)

    def change(self, path, text, now, *, alike=False, time=0):
        """Replaces the content of the first variant at a path."""
        first, *others = self._page_with_content(path).variants
        changed = Variant(first.form, first.tongue, first.coding, text, weight=first.weight)
        self._put(path, [changed, *others], now, alike, time)

    def erase(self, path, *, time=0):
        """Removes the content at a path."""
        self._page_with_content(path).remove_variants(time)

    def answer(self, request, now, *, time=0):
        """The response to a request."""
        if request.method == "get":
            return self._answer_get(request, now)
        status = self._write(request, now, time)
        return Response(status, [("date", str(now))])

    def lateness(self, path, text, time):
        """How many ticks ago a content was at a path, None if it never was there."""
        page = self._pages.get(path)
        return None if page is None else page.lateness(text, time)

    def _page_with_content(self, path):
        page = self._pages.get(path)
        if page is None or not page.variants:
            raise NothingThere(path)
        return page

    def _put(self, path, variants, now, alike, time):
        page = self._pages.setdefault(path, Page())
        page.put_variants(variants, now, alike, time)

    def _variants(self, path):
        """The variants at a path, none if there is nothing."""
        page = self._pages.get(path)
        return [] if page is None else page.variants

    def _current(self, path, index, now):
        """The mark and the change reading that an answer at this reading tells of a variant."""
        page = self._pages[path]
        known = self.kind.dated and settled(page.changed, now, self.kind.margin)
        return Current(self._mark(page, index), page.changed if known else None)

    def _mark(self, page, index):
        if self.kind.mark == "strong":
            return Mark(f"v{page.version}.{index}")
        if self.kind.mark == "weak":
            return Mark(f"e{page.epoch}.{index}", True)
        return None

    def _answer_get(self, request, now):
        date = ("date", str(now))
        variants = self._variants(request.path)
        index = choose(variants, request)
        if index is None:
            return Response("missing", [date])
        current = self._current(request.path, index, now)
        status, more, body = tell_content(request, current, variants[index].content)
        if status == "failed":
            return Response("failed", [date])
        return Response(status, [date, *self._telling_fields(current, len(variants)), *more], body)

    def _telling_fields(self, current, count):
        """The fields that tell of a content with so many variants."""
        fields = []
        if current.mark is not None:
            fields.append(("mark", str(current.mark)))
        if current.changed is not None:
            fields.append(("changed", str(current.changed)))
        keep = self.kind.keep_field()
        if keep != "":
            fields.append(("keep", keep))
        if count > 1:
            fields.append(("varies", ", ".join(sorted(WANT_FIELDS))))
        return fields

    def _write(self, request, now, time):
        """Carries out a put or a delete; the status of the response."""
        there = bool(self._variants(request.path))
        conditions = Conditions.of(request)
        if conditions(self._current(request.path, 0, now) if there else None) == "failed":
            return "failed"
        if request.method == "put":
            self._put(request.path, [plain_variant(request.body)], now, False, time)
            return "done"
        if not there:
            return "missing"
        self.erase(request.path, time=time)
        return "done"


def plain_variant(text):
    """The single variant for which a text stands."""
    return Variant("plain", "any", "none", text)
