"""[78] to [80]: traces, sets of states, and what is seen."""

import random
import unittest

from hopkeep.calm import calm_start, calm_step
from hopkeep.errors import InvalidEvent, InvalidTrace
from hopkeep.kinds import Kind
from hopkeep.makes import Make
from hopkeep.settings import Setting
from hopkeep.traces import is_trace_answer, judge_trace, seen
from tests.draws import drawn_calm_setting
from tests.helpers import caught
from tests.test_calm import BAD, drawn_calm_event

ASK, WAIT, CHANGE = ("ask", 1, None), ("wait", 1), ("change",)
FRESH = ("told", 1, 0, 0)
ONE = Setting([Make()], Kind(3))
TWO = Setting([Make(tells=False), Make()], Kind(2))
BAD_ENTRIES = [None, 5, "wait", [], (), ["wait", 1], ("wait",), ("wait", 0), ("wait", 1001), ("wait", -1), ("wait", True),
               ("wait", "1"), ("wait", 1, 1), ("change", 1), ["change"], ("told",), ("told", 1, 0), ("told", 1, 0, 0, 0),
               ("told", 0, 0, 0), ("told", 3, 0, 0), ("told", -1, 0, 0), ("told", 1, -1, 0), ("told", 1, 0, -1),
               ("told", True, 0, 0), ("told", 1, False, 0), ("told", 1, 0, True), ("told", "1", 0, 0),
               ("told", 1, None, 0), ("told", 1, 0, None), ["told", 1, 0, 0], ("ask", 1, None), ("stop", 1), ("behind",),
               ("Told", 1, 0, 0), (None,), (1, 2), (("told",), 1, 0, 0)]
VALUES = [None, True, 0, 5, "right", "wrong", (), [], {}, ("right",), ("wrong",), ("right", None), ("wrong", 0),
          ["right", []], ("right", [], []), ("wrong", 0, [], []), ("Right", []), (True, []), (None, None, None),
          ("kept", []), object()]


def gives(setting, story, trace):
    """True if a story gives a trace, tried in all ways of hearing its asks."""
    ways = {(calm_start(setting), 0)}
    for event in story:
        behind = set()
        for state, heard in ways:
            after, telling = calm_step(setting, state, event)
            entry = trace[heard] if heard < len(trace) else None
            if event[0] in ("wait", "change"):
                if event == entry:
                    behind.add((after, heard + 1))
                continue
            behind.add((after, heard))
            if event[0] == "ask" and ("told", event[1], *telling) == entry:
                behind.add((after, heard + 1))
        ways = behind
    return any(heard == len(trace) for _, heard in ways)


def reached(setting, states):
    """These states and those to which asks and stops lead from there."""
    found = set(states)
    waiting = list(states)
    while waiting:
        state = waiting.pop()
        for hop in range(1, setting.hops + 1):
            for event in (("ask", hop, None), ("stop", hop)):
                after = calm_step(setting, state, event)[0]
                if after not in found:
                    found.add(after)
                    waiting.append(after)
    return found


def first_wrong(setting, trace):
    """The index of the first entry that is not right, None without one, and the sets of states."""
    sets = [reached(setting, {calm_start(setting)})]
    for index, entry in enumerate(trace):
        event = ("ask", entry[1], None) if entry[0] == "told" else entry
        steps = [calm_step(setting, state, event) for state in sets[-1]]
        after = {state for state, telling in steps if entry[0] != "told" or telling == entry[2:]}
        if not after:
            return index, sets
        sets.append(reached(setting, after))
    return None, sets


def drawn_trace(rng, setting, length):
    """A trace of a drawn story, perhaps with an entry that was changed."""
    story = [drawn_calm_event(rng, setting) for _ in range(length)]
    heard = rng.randrange(1, setting.hops + 1)
    trace = seen(setting, story, heard)
    if rng.random() < 0.5:
        told = [at for at, entry in enumerate(trace) if entry[0] == "told"]
        if told:
            at = rng.choice(told)
            name, hop, behind, age = trace[at]
            trace[at] = (name, hop, max(0, behind + rng.choice((-1, 0, 1))), max(0, age + rng.choice((-1, 0, 1, 2))))
    return trace[:20]


class JudgeTest(unittest.TestCase):
    def test_example(self):
        answer = judge_trace(ONE, [FRESH, ("wait", 3), ("told", 1, 0, 3)])
        self.assertEqual((answer[0], answer[1]), ("wrong", 2))

    def test_right_ones(self):
        for setting, trace in (
                (ONE, []), (ONE, [FRESH]), (ONE, [WAIT, CHANGE, ("wait", 1000)]), (ONE, [FRESH, FRESH]),
                (ONE, [FRESH, CHANGE, ("wait", 2), ("told", 1, 1, 2)]), (ONE, [FRESH, CHANGE, ("wait", 3), FRESH]),
                # Nobody hears the ask that brings the answer, nor the stop that drops it.
                (ONE, [CHANGE, ("wait", 2), ("told", 1, 0, 2)]), (ONE, [FRESH, CHANGE, WAIT, FRESH]),
                (ONE, [WAIT, WAIT, ("told", 1, 0, 2), FRESH, ("told", 1, 0, 0)]),
                (TWO, [WAIT, CHANGE, ("told", 2, 1, 1), ("told", 1, 1, 0)]),
                (TWO, [("told", 2, 0, 0), WAIT, CHANGE, ("told", 1, 1, 0), WAIT, ("told", 1, 1, 0), ("told", 2, 0, 0)])):
            kind, story = judge_trace(setting, trace)
            self.assertEqual(kind, "right", trace)
            self.assertTrue(gives(setting, story, trace), trace)
            self.assertTrue(is_trace_answer(setting, trace, (kind, story)))

    def test_wrong_ones(self):
        for setting, trace, index in (
                (ONE, [("told", 1, 1, 0)], 0), (ONE, [("told", 1, 0, 1)], 0), (ONE, [WAIT, ("told", 1, 0, 2)], 1),
                (ONE, [FRESH, CHANGE, ("told", 1, 1, 0), ("told", 1, 0, 0), ("told", 1, 1, 0)], 4),
                (ONE, [FRESH, FRESH, CHANGE, ("wait", 3), ("told", 1, 1, 3), FRESH], 4),
                (Setting([Make(durable=True)], Kind(3)), [FRESH, CHANGE, WAIT, FRESH], 3),
                (TWO, [CHANGE, ("wait", 2), ("told", 1, 1, 0)], 2), (TWO, [("told", 1, 0, 1)], 0),
                (Setting([Make()] * 2, Kind(0)), [CHANGE, FRESH, ("told", 2, 1, 0), FRESH], 2)):
            answer = judge_trace(setting, trace)
            self.assertEqual(answer[:2], ("wrong", index), trace)
            self.assertTrue(is_trace_answer(setting, trace, answer))

    def test_drawn_traces(self):
        outcomes = {}
        for seed in range(250):
            rng = random.Random(seed)
            setting = drawn_calm_setting(rng, hops=(1, 2, 2), most=4)
            trace = drawn_trace(rng, setting, rng.randrange(14))
            index, sets = first_wrong(setting, trace)
            answer = judge_trace(setting, trace)
            self.assertTrue(is_trace_answer(setting, trace, answer), seed)
            if index is None:
                self.assertEqual(answer[0], "right", seed)
                self.assertTrue(gives(setting, answer[1], trace), seed)
            else:
                self.assertEqual(answer[:2], ("wrong", index), seed)
                self.assertEqual(len(answer[2]), index + 1)
                for found, expected in zip(answer[2], sets):
                    self.assertEqual(len(found), len(set(found)))
                    self.assertTrue(expected <= set(found))
            outcomes[answer[0]] = outcomes.get(answer[0], 0) + 1
        self.assertGreater(min(outcomes.values()), 40)

    def test_three_hops_and_twenty_entries(self):
        setting = Setting([Make(tells=False)] * 3, Kind(6))
        for last, kind in ((("told", 1, 3, 0), "right"), (("told", 1, 9, 0), "wrong")):
            trace = [WAIT, CHANGE] * 9 + [FRESH, ("told", 3, 0, 0)]
            trace[-1:] = [last] if kind == "wrong" else trace[-1:]
            answer = judge_trace(setting, trace)
            self.assertEqual(answer[0], kind)
            self.assertTrue(is_trace_answer(setting, trace, answer))

    def test_invalid_entries(self):
        good = [FRESH, WAIT, ("told", 1, 9, 9), CHANGE]
        for bad in BAD_ENTRIES:
            for index in range(5):
                # The first entry that is not right does not matter, since the forms are looked at before.
                trace = good[:index] + [bad] + good[index:] + [None]
                self.assertEqual(caught(InvalidTrace, judge_trace, TWO, trace).index, index, bad)
                self.assertEqual(caught(InvalidTrace, is_trace_answer, TWO, trace, None).index, index, bad)
        for entry in (("wait", 1000), ("told", 2, 0, 0), ("told", 1, 10 ** 9, 10 ** 9)):
            self.assertIn(judge_trace(TWO, [entry])[0], ("right", "wrong"))
        self.assertEqual(caught(InvalidTrace, judge_trace, ONE, [("told", 2, 0, 0)]).index, 0)


class RightAnswersTest(unittest.TestCase):
    TRACE = [FRESH, CHANGE, ("wait", 2), ("told", 1, 1, 2)]
    STORY = [ASK, CHANGE, ("wait", 2), ASK]

    def assert_judged(self, story, expected, trace=None, setting=ONE):
        trace = self.TRACE if trace is None else trace
        found = is_trace_answer(setting, trace, ("right", story))
        self.assertIs(found, expected, story)

    def test_asks_that_nobody_hears(self):
        for at in range(4):
            for more in ([ASK], [ASK, ASK]):
                self.assert_judged(self.STORY[:at] + more + self.STORY[at:], True)
        self.assert_judged(self.STORY + [ASK], True)
        self.assert_judged(self.STORY + [("stop", 1), ASK], True)
        self.assert_judged([("stop", 1), ("stop", 1)] + self.STORY, True)
        self.assert_judged([ASK, ("stop", 1)] + self.STORY[1:], False)
        # What is told differently may have been another ask.
        self.assert_judged([ASK, WAIT, ASK, ("stop", 1), ASK], True, [WAIT, FRESH])
        self.assert_judged([ASK, WAIT, ASK, ("stop", 1), ASK], True, [FRESH, WAIT, ("told", 1, 0, 1)])
        self.assert_judged([ASK, WAIT, ASK, ("stop", 1), ASK], True, [WAIT, ("told", 1, 0, 1), FRESH])
        self.assert_judged([ASK, WAIT, ASK, ("stop", 1), ASK], False, [WAIT, FRESH, ("told", 1, 0, 1)])

    def test_spoilt_stories(self):
        self.assert_judged(self.STORY, True)
        for at in range(4):
            self.assert_judged(self.STORY[:at] + self.STORY[at + 1:], False)
        for at, event in ((1, WAIT), (2, ("wait", 1)), (2, ("wait", 3)), (2, CHANGE), (3, CHANGE), (3, WAIT)):
            self.assert_judged(self.STORY[:at] + [event] + self.STORY[at + 1:], False)
        self.assert_judged(self.STORY + [WAIT], False)
        self.assert_judged(self.STORY + [CHANGE], False)
        self.assert_judged([WAIT] + self.STORY, False)
        self.assert_judged([ASK, CHANGE, WAIT, WAIT, ASK], False)
        self.assert_judged([ASK, ("wait", 2), CHANGE, ASK], False)
        self.assert_judged([], True, [])
        self.assert_judged([], False)

    def test_other_events(self):
        for bad in BAD + [("told", 1, 0, 0), ("stop", 2), ("ask", 2, None)]:
            for at in range(5):
                self.assert_judged(self.STORY[:at] + [bad] + self.STORY[at:], False)
        self.assert_judged([ASK, CHANGE, ("wait", 1), ASK], True, [FRESH, CHANGE, WAIT, ("told", 1, 1, 1)])
        self.assert_judged([ASK, CHANGE, ("wait", True), ASK], False, [FRESH, CHANGE, WAIT, ("told", 1, 1, 1)])

    def test_other_hops(self):
        trace = [("told", 2, 0, 0), ("told", 1, 0, 0)]
        self.assert_judged([("ask", 2, None), ASK], True, trace, TWO)
        self.assert_judged([ASK, ("ask", 2, None)], False, trace, TWO)
        self.assert_judged([("ask", 2, None), ("ask", 2, None)], False, trace, TWO)

    def test_other_values(self):
        self.assert_judged(tuple(self.STORY), False)
        for value in VALUES:
            self.assert_judged(value, False)
            self.assertIs(is_trace_answer(ONE, self.TRACE, value), False, value)
        self.assertIs(is_trace_answer(ONE, self.TRACE, ["right", self.STORY]), False)
        self.assertIs(is_trace_answer(ONE, self.TRACE, ("right", self.STORY, 3)), False)
        self.assertIs(is_trace_answer(ONE, self.TRACE, ("wrong", self.STORY)), False)
        wrong = judge_trace(ONE, [FRESH, ("told", 1, 1, 0)])
        self.assertIs(is_trace_answer(ONE, [FRESH, ("told", 1, 1, 0)], wrong), True)
        for name in ("Wrong", "right", "told", None, True):
            self.assertIs(is_trace_answer(ONE, [FRESH, ("told", 1, 1, 0)], (name, *wrong[1:])), False)


class WrongAnswersTest(unittest.TestCase):
    TRACE = [FRESH, WAIT, ("told", 1, 0, 1), CHANGE, ("told", 1, 2, 1), FRESH]

    def setUp(self):
        self.answer = judge_trace(ONE, self.TRACE)
        self.sets = self.answer[2]

    def assert_judged(self, index, sets, expected, trace=None):
        found = is_trace_answer(ONE, self.TRACE if trace is None else trace, ("wrong", index, sets))
        self.assertIs(found, expected, (index, sets))

    def test_as_it_is(self):
        self.assertEqual(self.answer[1], 4)
        self.assert_judged(4, self.sets, True)

    def test_order_and_duplicates(self):
        self.assert_judged(4, [states[::-1] * 2 for states in self.sets], True)

    def test_each_state_is_needed(self):
        for number, states in enumerate(self.sets):
            for at in range(len(states)):
                less = self.sets[:number] + [states[:at] + states[at + 1:]] + self.sets[number + 1:]
                self.assert_judged(4, less, False)

    def test_more_states(self):
        # A state that leads to nothing but states of the later lists does no harm.
        more = [list(states) for states in self.sets]
        more[4].append(((5, 0, 0),))
        self.assert_judged(4, more, True)
        more[4].append(((2, 1, 1),))
        self.assert_judged(4, more, False)
        early = [list(states) for states in self.sets]
        early[0].append(((1, 0, 0),))
        self.assert_judged(4, early, True)
        early[0].append(((0, 1, 1),))
        self.assert_judged(4, early, True)
        early[1].append(((0, 0, 7),))
        self.assert_judged(4, early, False)

    def test_index_and_lengths(self):
        self.assert_judged(3, self.sets[:4], False)
        self.assert_judged(2, self.sets[:3], False)
        self.assert_judged(0, self.sets[:1], False)
        self.assert_judged(5, self.sets + [self.sets[-1]], False)
        for index in (-2, -1, 6, 100, True, "4", None, 4.0):
            self.assert_judged(index, self.sets, False)
        for sets in (self.sets[:-1], self.sets + [self.sets[-1]], [], tuple(self.sets), None, 5,
                     [tuple(states) for states in self.sets], [set(states) for states in self.sets],
                     [{state: True for state in states} for states in self.sets], [None] * 5, self.sets[:-1] + [None]):
            self.assert_judged(4, sets, False)
        one = judge_trace(ONE, [CHANGE, ("told", 1, 5, 0)])
        self.assertEqual(one[1], 1)
        self.assert_judged(1, one[2], True, [CHANGE, ("told", 1, 5, 0)])
        self.assert_judged(True, one[2], False, [CHANGE, ("told", 1, 5, 0)])

    def test_a_later_entry_may_be_shown(self):
        # The entry at the index 4 has been heard by nobody, so the list behind it may be any that is closed.
        trace = [("told", 1, 7, 0), WAIT, ("told", 1, 7, 0)]
        states = [(None,), ((0, 0, 0),)]
        self.assert_judged(0, [states], True, trace)
        self.assert_judged(2, [states, [], []], True, trace)
        self.assert_judged(2, [states, states, []], False, trace)
        self.assert_judged(2, [states, states, [*states, ((0, 1, 1),)]], True, trace)
        self.assert_judged(1, [states, []], False, trace)
        self.assert_judged(0, [states, []], False, trace)
        self.assert_judged(2, [states], False, trace)

    def test_states_of_several_hops(self):
        trace = [("told", 2, 1, 0)]
        answer = judge_trace(TWO, trace)
        self.assertEqual(answer[:2], ("wrong", 0))
        self.assertTrue(is_trace_answer(TWO, trace, answer))
        for bad in ((None, (0, 2, 2)), ((0, 0, 0), (0, 0)), ((0, 2, 2), None), ((0, 0), (0, 0, 0)), (None,),
                    (None, (0, 0, True))):
            self.assertFalse(is_trace_answer(TWO, trace, ("wrong", 0, [[*answer[2][0], bad]])), bad)

    def test_states_of_another_form(self):
        for bad in (None, 5, (), [None], (None, None), ((0, 0),), ((0, 0, 0, 0),), ([0, 0, 0],), ((0, 3, 3),),
                    ((0, -1, 0),), ((-1, 0, 0),), ((0, 0, -1),), ((True, 0, 0),), ((0, False, 0),), (("0", 0, 0),), (0,),
                    ((None, 0, 0),), [(0, 0, 0)]):
            for number in range(5):
                sets = [list(states) for states in self.sets]
                sets[number].append(bad)
                self.assert_judged(4, sets, False)


class SeenTest(unittest.TestCase):
    def test_by_hand(self):
        story = [ASK, WAIT, CHANGE, ("ask", 2, None), ASK, ("stop", 1), ASK, ("wait", 1000), ("stop", 2), ASK]
        for hop, trace in ((1, [FRESH, WAIT, CHANGE, ("told", 1, 1, 0), ("told", 1, 1, 0), ("wait", 1000), FRESH]),
                           (2, [WAIT, CHANGE, ("told", 2, 1, 1), ("wait", 1000)]),
                           (0, [WAIT, CHANGE, ("wait", 1000)]), (3, [WAIT, CHANGE, ("wait", 1000)]),
                           (-1, [WAIT, CHANGE, ("wait", 1000)])):
            self.assertEqual(seen(TWO, story, hop), trace)
        self.assertEqual(seen(TWO, [], 1), [])

    def test_what_is_seen_is_right(self):
        for seed in range(60):
            rng = random.Random(seed)
            setting = drawn_calm_setting(rng)
            story = [drawn_calm_event(rng, setting) for _ in range(18)]
            for hop in range(1, setting.hops + 2):
                trace = seen(setting, story, hop)
                self.assertTrue(is_trace_answer(setting, trace, ("right", story)), seed)
                self.assertEqual(judge_trace(setting, trace)[0], "right", seed)

    def test_versions_never_go_back_at_one_hop(self):
        lower = 0
        for seed in range(300):
            rng = random.Random(seed)
            setting = drawn_calm_setting(rng)
            trace = drawn_trace(rng, setting, 18)
            if judge_trace(setting, trace)[0] == "right":
                changes = 0
                versions = []
                for entry in trace:
                    changes += entry[0] == "change"
                    if entry[0] == "told":
                        versions.append(changes - entry[2])
                self.assertEqual(versions, sorted(versions), seed)
                lower += len(set(versions)) > 1
        self.assertGreater(lower, 40)

    def test_versions_of_several_hops_may_go_back(self):
        setting = Setting([Make(), Make()], Kind(3))
        trace = [FRESH, CHANGE, ("wait", 1), ("told", 2, 1, 1), ("told", 2, 0, 0), ("told", 1, 1, 1)]
        answer = judge_trace(setting, trace)
        self.assertEqual(answer[0], "right")
        self.assertTrue(gives(setting, answer[1], trace))

    def test_invalid_events(self):
        story = [ASK, WAIT, ("ask", 2, None), CHANGE]
        for bad in BAD + [("wait", 1001), ("wait", 100000)]:
            for index in range(5):
                events = story[:index] + [bad] + story[index:] + [("wait", 0)]
                self.assertEqual(caught(InvalidEvent, seen, TWO, events, 1).index, index, bad)
                self.assertEqual(caught(InvalidEvent, seen, TWO, events, 9).index, index, bad)
        for bad in (("ask", 2, None), ("stop", 2)):
            self.assertEqual(caught(InvalidEvent, seen, ONE, [ASK, bad], 1).index, 1)
        self.assertEqual(seen(ONE, [("wait", 1000)], 1), [("wait", 1000)])
