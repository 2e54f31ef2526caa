"""[1] to [6]: what the document promises over the whole program, on rows of messages of every form."""

import random
import unittest

from hopkeep.audit import Audit
from hopkeep.desk import Desk
from hopkeep.enacting import enact
from hopkeep.errors import HopError
from hopkeep.kinds import Kind
from hopkeep.makes import Make
from hopkeep.messages import Request
from hopkeep.ranges import read_parts
from hopkeep.row import Row
from hopkeep.settings import Setting
from hopkeep.variants import Variant
from hopkeep.verdicts import breaks, covers, judge
from hopkeep.worstage import sound, worst
from tests.draws import drawn_setting
from tests.helpers import caught, get

PATHS = ("/a", "/b", "/v")
SIGNS = "abcdefghij\n"
MARKS = ('"v1.0"', '"v2.0"', '"v3.0"', 'w"e1.0"', "*", '"v2.1"', '"v1.0", "v2.0"')


class DrawnRow:
    """A row with several paths that gets events of every form; all its contents are different."""

    def __init__(self, seed, **settings):
        self.rng = random.Random(seed)
        self.setting = drawn_setting(self.rng, **settings)
        self.texts = {path: [] for path in PATHS}
        self.count = 0
        self.row = Row(self.setting, [("/a", self.new_text("/a")), ("/b", self.new_text("/b")),
                                      ("/v", [Variant(form, "en", "none", self.new_text("/v"))
                                              for form in ("text", "page")])])

    def new_text(self, path):
        self.count += 1
        text = f"{self.count}:" + "".join(self.rng.choices(SIGNS, k=self.rng.randrange(25)))
        self.texts[path].append(text)
        return text

    def request(self):
        """A request with no directive `late`."""
        rng = self.rng
        choices = (("keep", rng.choice(("check", "age=0", "age=1", "age=3", "kept", "fresh=1", "never", "fresh=0, age=2",
                                        "kept, age=9"))),
                   ("range", rng.choice(("0-5", "4-9, 20-", "-3", "99-", "x", "0-0, 2-2, 4-4", "1-2,8-9", "0-"))),
                   ("if-no-mark", rng.choice(MARKS)), ("if-changed", str(rng.randrange(9))),
                   ("if-part", rng.choice((*MARKS, "2", "0"))),
                   ("want-form", rng.choice(("text", "page", "plain", "text;5, page;3", "*"))),
                   ("if-mark", rng.choice(MARKS)), ("if-unchanged", str(rng.randrange(9))))
        fields = [field for field, weight in zip(choices, (8, 8, 3, 3, 3, 6, 1, 1)) if rng.random() < weight / 20]
        rng.shuffle(fields)
        method = rng.choice(["get"] * 14 + ["put", "delete"])
        path = rng.choice(PATHS)
        return Request(method, path, fields, self.new_text(path) if method == "put" else "")

    def event(self):
        rng = self.rng
        setting = self.setting
        hop = rng.randrange(1, setting.hops + 1)
        name = rng.choice(["ask"] * 9 + ["wait"] * 3 + ["clock", "clock", "delay", "change", "behind", "behind", "lose",
                                                        "clip", "stop", "alike"])
        if name == "clock":
            hop = rng.randrange(1, setting.hops + 2)
            clock = setting.clocks[hop - 1]
            return (name, hop, rng.choice((-clock.behind, clock.ahead)))
        if name in ("change", "alike", "behind"):
            if name == "alike" and setting.kind.mark != "weak":
                name = "change"
            path = rng.choice(PATHS)
            return (name, path, self.new_text(path))
        if name == "ask":
            return (name, rng.choice((1, hop)), self.request())
        if name in ("lose", "clip") and not setting.loses:
            name = "wait"
        rest = {"wait": (rng.randrange(1, 4),), "delay": (hop, rng.randrange(setting.delays[hop - 1] + 1)),
                "stop": (hop,), "lose": (hop, rng.choice(("up", "back"))), "clip": (hop, rng.randrange(180))}
        return (name, *rest[name])

    def played(self, count):
        """Plays so many events; yields each get with its answer and the entry of the log."""
        for _ in range(count):
            event = self.event()
            try:
                answer = self.row.play(event)
            except HopError:
                # The content of the path was removed.
                continue
            if event[0] == "ask" and event[2].method == "get":
                yield event[2], answer, self.row.log[-1]


def has_pieces(text, pieces):
    return all(text[start:start + len(piece)] == piece for start, piece in pieces)


class EveryFormTest(unittest.TestCase):
    def test_no_answer_is_later_than_the_worst(self):
        late = 0
        for seed in range(400):
            drawn = DrawnRow(seed, graces=(0, 0, 2), marks=("strong", "strong", "none", "weak"))
            oldest = worst(drawn.setting)
            for _, answer, entry in drawn.played(120):
                if answer.status == "ok" and oldest is not None:
                    self.assertLessEqual(entry[5], oldest, seed)
                    late += entry[5] > 0
        self.assertGreater(late, 300)

    def test_contents_are_never_mixed(self):
        seen = {"ok": 0, "part": 0}
        for seed in range(150):
            drawn = DrawnRow(1000 + seed)
            for request, answer, entry in drawn.played(120):
                texts = drawn.texts[request.path]
                if answer.status == "ok":
                    self.assertIn(answer.body, texts)
                    self.assertIsNotNone(entry[5])
                    seen["ok"] += 1
                elif answer.status == "part":
                    length, pieces = read_parts(answer)
                    # Some one version has all of the pieces.
                    self.assertTrue([text for text in texts if len(text) == length and has_pieces(text, pieces)],
                                    (seed, answer.fields, answer.body))
                    seen["part"] += 1
        self.assertGreater(min(seen.values()), 200)

    def test_the_directive_late_is_not_covered(self):
        setting = Setting([Make()], Kind(2))
        row = Row(setting, [("/a", "x")])
        for event in (("ask", 1, get()), ("change", "/a", "y"), ("wait", 9), ("ask", 1, get(("keep", "late")))):
            row.play(event)
        self.assertEqual(worst(setting), 1)
        self.assertEqual(row.log[-1][5], 9)


class OverviewTest(unittest.TestCase):
    def test_a_certificate_for_each_answer(self):
        for seed in range(80):
            setting = drawn_setting(random.Random(seed))
            for bound in (0, 3, 8):
                kind, proof = judge(setting, bound)
                self.assertIs(covers(setting, bound, proof), kind == "kept")
                self.assertIs(breaks(setting, bound, proof), kind == "broken")
                self.assertIs(bool(Audit(setting, bound)), kind == "kept")
                oldest = worst(setting)
                self.assertEqual(kind == "kept", sound(setting) and oldest is not None and oldest <= bound)

    def test_a_desk_shows_the_story_that_breaks(self):
        setting = Setting([Make(), Make(tells=False)], Kind(3), delays=[0, 1])
        audit = Audit(setting, 4)
        desk = Desk(setting, [("/", "0")])
        desk.let(4)
        for number, event in enumerate(audit.verdict[1]):
            if event[0] in ("change", "behind"):
                event = (event[0], "/", f"new {number}")
            elif event[0] == "ask":
                event = ("ask", event[1], get(path="/"))
            desk.do(event)
        self.assertEqual([(entry[5], entry[4]) for entry in desk.row.log], enact(setting, audit.verdict[1]))
        self.assertEqual(desk.first_late, len(desk.row.log) - 1)

    def test_every_error_is_a_hop_error(self):
        setting = Setting([Make()], Kind(5))
        for call in (lambda: judge(setting, -1), lambda: Desk(setting, [("a", "")]), lambda: enact(setting, [None]),
                     lambda: Desk(setting, []).line("?"), lambda: Desk(setting, []).undo()):
            with self.assertRaises(HopError):
                call()
        self.assertIsNone(caught(HopError, judge, setting, 0))
