"""A row of caches that are joined by streams, written without hopkeep.row to compare it with."""

from hopkeep.ages import told_age
from hopkeep.cache import Cache
from hopkeep.origin import Origin
from hopkeep.pipe import Pipe
from hopkeep.reader import Reader
from hopkeep.variants import Variant
from hopkeep.writer import cut, write_message


class WireRow:
    """Plays the events of a row; every message is written in some framing and read in pieces."""

    def __init__(self, setting, pages, rng):
        self.setting = setting
        self.rng = rng
        self.origin = Origin(setting.kind)
        for path, content in pages:
            self.origin.place(path, self.variants(content), 0)
        self.caches = [Cache(make) for make in setting.makes]
        self.offsets = [0] * (len(setting.makes) + 1)
        self.delays = [0] * len(setting.makes)
        self.orders = {}
        self.behind = {}
        self.time = 0
        self.log = []

    def variants(self, content):
        return content if isinstance(content, list) else [Variant("plain", "any", "none", content)]

    def now(self, hop):
        return self.time + self.offsets[hop - 1]

    def play(self, event):
        name, *rest = event
        if name == "wait":
            self.time += rest[0]
        elif name == "clock":
            self.offsets[rest[0] - 1] = rest[1]
        elif name == "delay":
            self.delays[rest[0] - 1] = rest[1]
        elif name in ("change", "alike"):
            self.origin.change(*rest, self.now(0), alike=name == "alike", time=self.time)
        elif name == "behind":
            self.behind[rest[0]] = rest[1]
        elif name == "lose":
            self.orders[rest[0], rest[1]] = True
        elif name == "clip":
            self.orders[rest[0], "clip"] = rest[1]
        elif name == "stop":
            self.caches[rest[0] - 1].stop()
        else:
            return self.ask(*rest)
        return None

    def ask(self, hop, request):
        told = self.hop_answers(hop, request)
        late = None
        if request.method == "get" and told.status == "ok":
            late = self.origin.lateness(request.path, told.body, self.time)
        self.log.append((self.time, hop, request.path, told.status, told_age(told), late))
        return told

    def hop_answers(self, hop, request):
        if hop > len(self.caches):
            return self.origin_answers(request)
        step = self.caches[hop - 1].ask(request, self.now(hop))
        while step[0] == "up":
            answer = self.over_the_link(hop, step[1])
            step = self.caches[hop - 1].answer(step[2], answer, self.now(hop))
        return step[1]

    def origin_answers(self, request):
        told = self.origin.answer(request, self.now(0), time=self.time)
        if request.method == "get" and told.status in ("ok", "part", "same") and request.path in self.behind:
            self.origin.change(request.path, self.behind.pop(request.path), self.now(0), time=self.time)
        return told

    def pieces(self, text):
        return cut(text, [self.rng.randrange(9) for _ in range(self.rng.randrange(6))])

    def framing(self, message):
        """Options of `write_message`: chunks and a trailer, or none."""
        if not message.may_have_body or self.rng.random() < 0.5:
            return {}
        sizes = [self.rng.randrange(1, 9) for _ in range(self.rng.randrange(4))]
        return {"chunks": sizes, "trailer": self.rng.randrange(len(message.fields) + 1)}

    def over_the_link(self, hop, request):
        pipe = Pipe()
        sent = pipe.send(request, **self.framing(request))
        if self.orders.pop((hop, "up"), False):
            return None
        reader = Reader("asks")
        (arrived,) = [one for piece in self.pieces(sent) for one in reader.feed(piece)]
        told = self.hop_answers(hop + 1, arrived)
        self.time += self.delays[hop - 1]
        if self.orders.pop((hop, "back"), False):
            return None
        count = self.orders.pop((hop, "clip"), None)
        # The place of a cut is told for the counted framing.
        text = write_message(told, **self.framing(told)) if count is None else write_message(told)[:count]
        pairs = [pair for piece in self.pieces(text) for pair in pipe.take(piece)]
        last, left = pipe.shut()
        answers = [answer for _, answer in pairs + last]
        if len(answers) + len(left) != 1:
            raise AssertionError((answers, left))
        return answers[0] if answers else None
