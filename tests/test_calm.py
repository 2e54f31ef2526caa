"""[75], and the common form of [77]: calm states."""

import random
import unittest

from hopkeep.calm import calm_start, calm_step, joined_state
from hopkeep.comparing import compare, is_alike, parts
from hopkeep.errors import InvalidEvent, NoLifetime, NotCalm
from hopkeep.kinds import Kind
from hopkeep.makes import Make, OwnMake, StrictMake
from hopkeep.messages import Request
from hopkeep.row import Row
from hopkeep.settings import Clock, Setting
from hopkeep.traces import is_trace_answer, judge_trace, seen
from tests.draws import drawn_calm_setting
from tests.helpers import caught
from tests.test_machine import WITHOUT_LIFETIME

KIND = Kind(3)
NOT_CALM = [Setting([Make()], KIND, loses=True), Setting([Make()], KIND, delays=[1]),
            Setting([Make()], KIND, clocks=[Clock(1), Clock()]), Setting([Make()], KIND, clocks=[Clock(), Clock(0, 1)]),
            Setting([Make()], Kind(3, mark="weak")), Setting([Make()], Kind(3, mark="none", dated=True)),
            Setting([Make(grace=None)], KIND), Setting([Make(), Make(grace=None)], KIND),
            Setting([Make(grace=None)], Kind(3, mark="weak"), loses=True)]
# Calls of all functions that take calm settings.
CALLS = [calm_start, lambda setting: calm_step(setting, (None,), "nothing"), lambda setting: compare(setting, setting),
         lambda setting: is_alike(setting, setting, None), lambda setting: parts(setting, setting, None),
         lambda setting: judge_trace(setting, ["nothing"]), lambda setting: is_trace_answer(setting, ["nothing"], None),
         lambda setting: seen(setting, ["nothing"], 1)]
BAD = [None, 5, "wait", [], (), ["wait", 1], ("wait",), ("wait", 0), ("wait", -1), ("wait", 100001), ("wait", True),
       ("wait", "1"), ("wait", 1, 1), ("change", 1), ("change", "/", "x"), ["change"], ("alike",), ("behind",), ("ask",),
       ("ask", 1), ("ask", 0, None), ("ask", 3, None), ("ask", 1, 0), ("ask", 1, -1), ("ask", 1, False),
       ("ask", True, None), ("ask", "1", None), ("ask", 1, None, None), ("stop",), ("stop", 0), ("stop", 3),
       ("stop", True), ("stop", 1, 1), ("stop", None), ("clock", 1, 0), ("delay", 1, 0), ("lose", 1, "up"),
       ("clip", 1, 1), ("told", 1, 0, 0), ("told", 1, None), ("Ask", 1, None), ("Wait", 1), (None,), (1, 2), (("wait",), 1)]


def steps(setting, *events, state=None):
    """The state behind some events, and the tellings of the asks."""
    state = calm_start(setting) if state is None else state
    tellings = []
    for event in events:
        state, telling = calm_step(setting, state, event)
        tellings.append(telling)
    return state, [telling for event, telling in zip(events, tellings) if event[0] == "ask"]


def ask(hop):
    return ("ask", hop, None)


def stepped(setting, state, event):
    """[75], word by word."""
    kept = list(state)
    makes = setting.makes
    if event[0] == "wait":
        kept = [entry and (entry[0], entry[1] + event[1], entry[2] + event[1]) for entry in kept]
        return tuple(entry if entry and entry[1] < limit_of(setting, hop) else None
                     for hop, entry in enumerate(kept, 1)), None
    if event[0] == "change":
        return tuple(entry and (entry[0] + 1, *entry[1:]) for entry in kept), None
    hop = event[1]
    if event[0] == "stop":
        if not makes[hop - 1].durable:
            kept[hop - 1] = None
        return tuple(kept), None
    above = hop
    while above <= setting.hops and kept[above - 1] is None:
        above += 1
    behind, told, since = (0, 0, 0) if above > setting.hops else kept[above - 1]
    if above <= setting.hops and not makes[above - 1].tells:
        told = 0
    for lower in range(above - 1, hop - 1, -1):
        initial = max(told, since) if makes[lower - 1].dates else told
        kept[lower - 1] = (behind, initial, since) if limit_of(setting, lower) > initial else None
        told = initial if makes[lower - 1].tells else 0
    return tuple(kept), (behind, told)


def limit_of(setting, hop):
    make, kind = setting.makes[hop - 1], setting.kind
    if kind.own and make.shared:
        return 0
    lasts = kind.shared_lasts if make.shared and kind.shared_lasts is not None else kind.lasts
    return lasts + (0 if isinstance(make, StrictMake) else make.grace)


def drawn_calm_event(rng, setting):
    hop = rng.randrange(1, setting.hops + 1)
    return rng.choice([("wait", 1), ("wait", rng.randrange(1, 5)), ("change",), ask(hop), ask(hop), ask(1),
                       ("stop", hop)])


class StepTest(unittest.TestCase):
    def test_start(self):
        for hops in (1, 2, 3):
            self.assertEqual(calm_start(Setting([Make()] * hops, KIND)), (None,) * hops)

    def test_asks_from_each_hop(self):
        setting = Setting([Make()] * 3, KIND)
        fresh = (0, 0, 0)
        for hop, state in ((1, (fresh, fresh, fresh)), (2, (None, fresh, fresh)), (3, (None, None, fresh))):
            self.assertEqual(calm_step(setting, (None, None, None), ask(hop)), (state, (0, 0)))
        state = ((2, 1, 1), None, (1, 2, 2))
        self.assertEqual(calm_step(setting, state, ask(1)), (state, (2, 1)))
        self.assertEqual(calm_step(setting, state, ask(2)), (((2, 1, 1), (1, 2, 2), (1, 2, 2)), (1, 2)))
        self.assertEqual(calm_step(setting, state, ask(3)), (state, (1, 2)))

    def test_waits(self):
        setting = Setting([Make(), Make(grace=2)], KIND)
        state = ((1, 1, 4), (0, 1, 1))
        for ticks, behind in ((1, ((1, 2, 5), (0, 2, 2))), (2, (None, (0, 3, 3))), (3, (None, (0, 4, 4))),
                              (4, (None, None)), (100000, (None, None))):
            self.assertEqual(calm_step(setting, state, ("wait", ticks)), (behind, None))

    def test_changes(self):
        setting = Setting([Make()] * 3, KIND)
        self.assertEqual(calm_step(setting, ((0, 1, 1), None, (4, 2, 2)), ("change",)),
                         (((1, 1, 1), None, (5, 2, 2)), None))

    def test_stops(self):
        setting = Setting([Make(), Make(durable=True), Make()], KIND)
        state = ((1, 0, 0), (2, 1, 1), None)
        for hop, behind in ((1, (None, (2, 1, 1), None)), (2, state), (3, state)):
            self.assertEqual(calm_step(setting, state, ("stop", hop)), (behind, None))

    def test_told_ages(self):
        for makes, telling, lowest in (
                ([Make(), Make()], (0, 2), (0, 2, 2)), ([Make(tells=False), Make()], (0, 0), (0, 2, 2)),
                ([Make(), Make(tells=False)], (0, 0), (0, 0, 2)),
                ([Make(tells=False), Make(tells=False)], (0, 0), (0, 0, 2)),
                ([Make(dates=True), Make(tells=False)], (0, 2), (0, 2, 2)),
                ([Make(tells=False, dates=True), Make(tells=False)], (0, 0), (0, 2, 2)),
                ([Make(dates=True), Make()], (0, 2), (0, 2, 2))):
            setting = Setting(makes, KIND)
            self.assertEqual(calm_step(setting, (None, (0, 2, 2)), ask(1)), ((lowest, (0, 2, 2)), telling))

    def test_an_answer_that_is_too_old_is_not_kept(self):
        setting = Setting([Make(), Make(grace=2)], Kind(2))
        for age, lowest in ((1, (0, 1, 1)), (2, None), (3, None)):
            self.assertEqual(calm_step(setting, (None, (0, age, age)), ask(1)), ((lowest, (0, age, age)), (0, age)))
        dated = Setting([Make(dates=True), Make(tells=False, grace=9)], Kind(2))
        for since, lowest in ((1, (0, 1, 1)), (2, None)):
            self.assertEqual(calm_step(dated, (None, (0, 0, since)), ask(1)), ((lowest, (0, 0, since)), (0, since)))

    def test_hops_without_a_limit_above_zero(self):
        for setting in (Setting([Make()] * 2, Kind(0)), Setting([Make()] * 2, Kind(3, check=True)),
                        Setting([Make()] * 2, Kind(3, own=True)), Setting([Make()] * 2, Kind(3, never=True))):
            self.assertEqual(steps(setting, ask(1), ("change",), ask(1), ask(2)), ((None, None), [(0, 0)] * 3))
        mixed = Setting([OwnMake(), Make()], Kind(3, own=True))
        self.assertEqual(steps(mixed, ask(1), ("change",), ask(1), ask(2)), (((1, 0, 0), None), [(0, 0), (1, 0), (0, 0)]))

    def test_a_kept_answer_ends_exactly_at_its_limit(self):
        setting = Setting([Make(grace=1)], KIND)
        for ticks, telling in ((3, (1, 3)), (4, (0, 0))):
            state, tellings = steps(setting, ask(1), ("change",), ("wait", ticks), ask(1))
            self.assertEqual(tellings[-1], telling)

    def test_word_by_word(self):
        for seed in range(150):
            rng = random.Random(seed)
            setting = drawn_calm_setting(rng)
            state = calm_start(setting)
            for _ in range(40):
                event = drawn_calm_event(rng, setting)
                found = calm_step(setting, state, event)
                self.assertEqual(found, stepped(setting, state, event), (seed, event))
                state = found[0]

    def test_invalid_events(self):
        setting = Setting([Make()] * 2, KIND)
        for bad in BAD:
            self.assertEqual(caught(InvalidEvent, calm_step, setting, (None, None), bad).index, 0, bad)


class MessagesTest(unittest.TestCase):
    def test_a_row_of_messages_tells_the_same(self):
        for seed in range(150):
            rng = random.Random(seed)
            setting = drawn_calm_setting(rng)
            row = Row(setting, [("/", "0")])
            state = calm_start(setting)
            changes = 0
            for _ in range(50):
                event = drawn_calm_event(rng, setting)
                if event[0] == "stop" and event[1] != 1:
                    # A hop above another one that loses its answers lets `same` pass without keeping it.
                    event = ("stop", 1)
                state, telling = calm_step(setting, state, event)
                if event[0] == "change":
                    changes += 1
                    row.play(("change", "/", str(changes)))
                elif event[0] == "ask":
                    body = row.play(("ask", event[1], Request.fetch("/"))).body
                    self.assertEqual((changes - int(body), row.log[-1][4]), telling, seed)
                else:
                    row.play(event)


class SettingsTest(unittest.TestCase):
    def test_not_calm(self):
        for setting in NOT_CALM:
            for call in CALLS:
                self.assertIsNotNone(caught(NotCalm, call, setting))

    def test_calm_ones(self):
        for setting in (Setting([Make()], Kind(0)), Setting([Make()], Kind(3, mark="none")),
                        Setting([Make()], Kind(3, mark="none", dated=True, margin=1)),
                        Setting([Make(checks=False)], Kind(3, mark="weak")),
                        Setting([Make()], Kind(3, mark="weak", own=True)), Setting([Make(error_grace=9)], KIND)):
            self.assertEqual(calm_start(setting), (None,))

    def test_lifetimes_come_first(self):
        for setting in WITHOUT_LIFETIME:
            for call in CALLS:
                self.assertIsNotNone(caught(NoLifetime, call, setting))
        restless = Setting([Make()], Kind(None), loses=True)
        for call in CALLS:
            self.assertIsNotNone(caught(NoLifetime, call, restless))


class JoinedStateTest(unittest.TestCase):
    def test_ranks(self):
        for first, second, joined in (
                ((None,), (None,), ((None,), (None,))),
                (((0, 1, 2),), ((0, 3, 4),), (((0, 1, 2),), ((0, 3, 4),))),
                (((5, 1, 2),), (None,), (((1, 1, 2),), (None,))),
                (((5, 1, 2),), ((5, 0, 0),), (((1, 1, 2),), ((1, 0, 0),))),
                (((5, 1, 2),), ((2, 0, 0),), (((2, 1, 2),), ((1, 0, 0),))),
                (((7, 0, 0), (0, 1, 1), (3, 2, 2)), ((9, 0, 0), None), (((2, 0, 0), (0, 1, 1), (1, 2, 2)),
                                                                       ((3, 0, 0), None))),
                (((1, 5, 5), (2, 5, 5)), ((1, 0, 5),), (((1, 5, 5), (2, 5, 5)), ((1, 0, 5),)))):
            self.assertEqual(joined_state(first, second), joined)
            self.assertEqual(joined_state(*joined), joined)
            self.assertEqual(joined_state(second, first), joined[::-1])
