"""[58] to [60]: a row answers as caches do that are joined by streams; and what holds in every row."""

import random
import unittest

from hopkeep.kinds import Kind
from hopkeep.makes import Make, OwnMake, StrictMake
from hopkeep.messages import Request
from hopkeep.row import Row
from hopkeep.settings import Clock, Setting
from hopkeep.variants import Variant
from tests.wire_row import WireRow

PATHS = ("/a", "/b", "/v")
TEXT = "abcdefghijklmnopqrstuvwxyz\n"


def some_make(rng):
    kind = rng.choice((Make, Make, StrictMake, OwnMake))
    return kind(grace=rng.choice((0, 0, 2, None)), error_grace=rng.choice((0, 3)), tells=rng.random() < 0.8,
                dates=rng.random() < 0.4, checks=rng.random() < 0.7, share=rng.choice((0, 50)), cap=4,
                durable=rng.random() < 0.3, room=rng.choice((1, 2, 8)))


def some_setting(rng):
    hops = rng.randrange(1, 7)
    kind = Kind(rng.choice((None, 0, 2, 5)), shared_lasts=rng.choice((None, None, 3)), late=rng.choice((0, 2)),
                on_error=rng.choice((0, 2)), strict=rng.random() < 0.1, check=rng.random() < 0.1,
                own=rng.random() < 0.1, never=rng.random() < 0.1, mark=rng.choice(("strong", "strong", "weak", "none")),
                dated=rng.random() < 0.5, margin=rng.choice((0, 2)))
    clocks = [Clock(rng.randrange(3), rng.randrange(3)) for _ in range(hops + 1)]
    return Setting([some_make(rng) for _ in range(hops)], kind, clocks=clocks,
                   delays=[rng.randrange(3) for _ in range(hops)], loses=rng.random() < 0.5)


def some_request(rng):
    choices = (("keep", rng.choice(("check", "age=2", "kept", "late", "fresh=1", "never", "late=3"))),
               ("range", rng.choice(("0-5", "4-9, 20-", "-3", "99-", "x", "0-0, 2-2, 4-4"))),
               ("if-no-mark", rng.choice(('"v1.0"', 'w"e1.0", "v2.0"', "*"))), ("if-changed", str(rng.randrange(9))),
               ("if-part", rng.choice(('"v1.0"', "2"))), ("want-form", rng.choice(("text", "page", "plain"))),
               ("if-mark", rng.choice(('"v1.0"', "*"))), ("if-unchanged", str(rng.randrange(9))))
    weights = (8, 8, 4, 2, 2, 6, 1, 1)
    fields = [field for field, weight in zip(choices, weights) if rng.random() < weight / 20]
    rng.shuffle(fields)
    method = rng.choice(["get"] * 12 + ["put", "delete"])
    body = "".join(rng.choices(TEXT, k=rng.randrange(30))) if method == "put" else ""
    return Request(method, rng.choice(PATHS), fields, body)


def some_event(rng, setting, texts):
    """An event that is allowed, but for changes of paths that have no content."""
    hop = rng.randrange(1, setting.hops + 1)
    name = rng.choice(["ask"] * 9 + ["wait"] * 3 + ["clock", "delay", "change", "alike", "behind", "lose", "clip",
                                                    "stop"])
    if name in ("change", "alike", "behind"):
        if name == "alike" and setting.kind.mark != "weak":
            name = "change"
        texts.append(f"{len(texts)}: " + "".join(rng.choices(TEXT, k=rng.randrange(25))))
        return (name, rng.choice(PATHS), texts[-1])
    if name in ("lose", "clip"):
        if not setting.loses:
            return ("wait", 1)
        return (name, hop, rng.choice(("up", "back")) if name == "lose" else rng.randrange(150))
    if name == "clock":
        hop = rng.randrange(1, setting.hops + 2)
        clock = setting.clocks[hop - 1]
        return (name, hop, rng.randrange(-clock.behind, clock.ahead + 1))
    return {"ask": ("ask", hop, some_request(rng)), "wait": ("wait", rng.randrange(1, 4)), "stop": ("stop", hop),
            "delay": ("delay", hop, rng.randrange(setting.delays[hop - 1] + 1))}[name]


class WireTest(unittest.TestCase):
    def test_rows_answer_as_their_messages_do(self):
        seen = set()
        for seed in range(120):
            rng = random.Random(seed)
            setting = some_setting(rng)
            pages = [("/a", TEXT), ("/v", [Variant("text", "en", "none", "T" + TEXT),
                                           Variant("page", "en", "none", TEXT * 2)])]
            row = Row(setting, pages)
            wire = WireRow(setting, pages, rng)
            texts = []
            for _ in range(60):
                event = some_event(rng, setting, texts)
                if event[0] in ("change", "alike") and event[1] not in wire.origin.paths:
                    continue
                told = row.play(event)
                self.assertEqual(told, wire.play(event), (seed, event))
                seen.add(told and told.status)
            self.assertEqual((row.time, row.log, row.clock_offsets(), row.link_delays()),
                             (wire.time, wire.log, wire.offsets, wire.delays))
        self.assertEqual(seen, {None, "ok", "part", "same", "done", "missing", "failed", "norange", "unkept", "error"})

    def test_same_events_give_the_same_row(self):
        rng = random.Random(58)
        setting = some_setting(rng)
        events = [("ask", 1, some_request(rng)) for _ in range(30)]
        logs = []
        for _ in range(2):
            row = Row(setting, [("/a", TEXT)])
            logs.append([row.play(event) for event in events] + row.log)
        self.assertEqual(*logs)


class EveryRowTest(unittest.TestCase):
    def test_plain_rows_are_never_later_than_their_lifetimes(self):
        # Caches that tell ages, in a row without delays and with exact clocks, tell no content later than it lasts.
        for seed in range(40):
            rng = random.Random(seed)
            lasts = rng.randrange(5)
            setting = Setting([Make(checks=rng.random() < 0.5) for _ in range(rng.randrange(1, 5))], Kind(lasts))
            row = Row(setting, [("/a", "0")])
            for at in range(80):
                row.play(rng.choice([("wait", 1), ("change", "/a", str(at)), ("ask", rng.randrange(setting.hops) + 1,
                                                                              Request.fetch("/a"))]))
            for entry in row.log:
                self.assertLessEqual(entry[5], max(0, lasts - 1))
                self.assertLessEqual(entry[5], entry[4])
