"""A row of caches with an origin, played event by event."""

from hopkeep.ages import told_age
from hopkeep.cache import Cache
from hopkeep.errors import InvalidEvent, InvalidValue
from hopkeep.events import is_allowed, is_event
from hopkeep.fields import is_path
from hopkeep.links import Link
from hopkeep.messages import is_body
from hopkeep.origin import Origin, plain_variant


class Row:
    """A row of caches; hop 1 is next to the reader, and the origin is behind the last one."""

    def __init__(self, setting, pages):
        if not are_pages(pages):
            raise InvalidValue("pages")
        self.setting = setting
        self._origin = Origin(setting.kind)
        for path, content in pages:
            self._origin.place(path, [plain_variant(content)] if isinstance(content, str) else content, 0)
        self._caches = [Cache(make) for make in setting.makes]
        self._links = [Link() for _ in setting.makes]
        self._offsets = [0 for _ in setting.clocks]
        self._time = 0
        # For a path the text to which its content changes behind the next answer.
        self._behind = {}
        self._log = []

    @property
    def time(self):
        """The true time."""
        return self._time

    @property
    def log(self):
        """A tuple (time, hop, path, status, age, lateness) for each ask."""
        return list(self._log)

    def clock_offsets(self):
        """The present offsets of the clocks of the hops and of the origin."""
        return list(self._offsets)

    def link_delays(self):
        """The present delays of the links that lead to the hops."""
        return [link.delay for link in self._links]

    def play(self, event):
        """Carries out an event; the response to an ask, None for other events."""
        if not is_event(event) or not is_allowed(self.setting, event) or not self._finds_content(event):
            raise InvalidEvent(0)
        actions = {"wait": self._wait, "clock": self._set_clock, "delay": self._set_delay, "change": self._change,
                   "alike": self._change_alike, "behind": self._change_behind, "lose": self._lose,
                   "clip": self._clip, "stop": self._stop, "ask": self._ask}
        action = actions[event[0]]
        rest = event[1:]
        return action(*rest)

    def _finds_content(self, event):
        """True unless the event changes a content that is not there."""
        return event[0] not in ("change", "alike") or event[1] in self._origin.paths

    def _wait(self, ticks):
        self._time += ticks

    def _set_clock(self, hop, offset):
        self._offsets[hop - 1] = offset

    def _set_delay(self, hop, delay):
        link = self._links[hop - 1]
        link.delay = delay

    def _change(self, path, text):
        self._origin.change(path, text, self._origin_reading(), time=self._time)

    def _change_alike(self, path, text):
        self._origin.change(path, text, self._origin_reading(), alike=True, time=self._time)

    def _change_behind(self, path, text):
        self._behind[path] = text

    def _lose(self, hop, way):
        self._links[hop - 1].lose(way)

    def _clip(self, hop, count):
        self._links[hop - 1].clip(count)

    def _stop(self, hop):
        self._caches[hop - 1].stop()

    def _ask(self, hop, request):
        response = self._answer_at(hop, request)
        lateness = None
        if request.method == "get" and response.status == "ok":
            lateness = self._origin.lateness(request.path, response.body, self._time)
        self._log.append((self._time, hop, request.path, response.status, told_age(response), lateness))
        return response

    def _reading(self, hop):
        """What the clock of a hop shows now."""
        return self.setting.clocks[hop - 1].reading(self._time, self._offsets[hop - 1])

    def _origin_reading(self):
        return self._reading(self.setting.hops + 1)

    def _answer_at(self, hop, request):
        """What a hop or the origin answers to a request that arrives there."""
        if hop > self.setting.hops:
            return self._answer_of_origin(request)
        cache = self._caches[hop - 1]
        step = cache.ask(request, self._reading(hop))
        while step[0] == "up":
            response = self._answer_from_above(hop, step[1])
            step = cache.answer(step[2], response, self._reading(hop))
        return step[1]

    def _answer_from_above(self, hop, request):
        """The answer that a hop gets to a request that it passes on, None if it is lost."""
        link = self._links[hop - 1]
        arriving = link.carry_up(request)
        if arriving is None:
            return None
        response = self._answer_at(hop + 1, arriving)
        self._time += link.delay
        return link.carry_back(response)

    def _answer_of_origin(self, request):
        response = self._origin.answer(request, self._origin_reading(), time=self._time)
        tells = request.method == "get" and response.status in ("ok", "part", "same")
        if tells and request.path in self._behind:
            self._change(request.path, self._behind.pop(request.path))
        return response


def are_pages(pages):
    """True if the pages have different paths and allowed contents."""
    if len(set([path for path, _ in pages])) != len(pages):
        return False
    return all([is_path(path) and is_page_content(content) for path, content in pages])


def is_page_content(content):
    """True for a text that is allowed as a body and for a list of variants that is not empty."""
    if isinstance(content, str):
        return is_body(content)
    return len(content) > 0
