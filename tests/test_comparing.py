"""[76], [77]: rows that answer alike for ever."""

import itertools
import random
import unittest

from hopkeep.calm import calm_start, calm_step, joined_state
from hopkeep.comparing import compare, is_alike, parts
from hopkeep.errors import NoLifetime, NotCalm
from hopkeep.kinds import Kind
from hopkeep.makes import Make
from hopkeep.settings import Setting
from tests.draws import drawn_calm_setting
from tests.helpers import caught
from tests.test_calm import NOT_CALM
from tests.test_machine import WITHOUT_LIFETIME

VALUES = [None, True, 0, "same", (), [], {}, [()], [None], [[]], [(None, None)], [((), ())], [1], [((None,),)],
          [[(None,), (None,)]], object()]


def events_of(first, second):
    hops = min(first.hops, second.hops)
    return [("wait", 1), ("change",)] + [("ask", hop, None) for hop in range(1, hops + 1)]


def tellings(setting, story):
    state = calm_start(setting)
    found = []
    for event in story:
        state, telling = calm_step(setting, state, event)
        found.append(telling)
    return found


def is_parted(first, second, story, ages):
    """True if the last ask of a story, and none before it, is told differently."""
    differ = [one != two if ages else one is not None and one[0] != two[0]
              for one, two in zip(tellings(first, story), tellings(second, story))]
    return story[-1][0] == "ask" and differ[-1] and not any(differ[:-1])


def first_parted(first, second, most, ages):
    """The first one of the shortest stories that part two rows, None if there is none of at most so many events."""
    level = [([], calm_start(first), calm_start(second))]
    for _ in range(most):
        behind = []
        for story, one, two in level:
            for event in events_of(first, second):
                one_after, one_told = calm_step(first, one, event)
                two_after, two_told = calm_step(second, two, event)
                if one_told != two_told and (ages or one_told[0] != two_told[0]):
                    return story + [event]
                behind.append((story + [event], one_after, two_after))
        level = behind
    return None


def reached_pairs(first, second):
    """All pairs of states that two rows reach by the same events, whatever they tell."""
    found = [(calm_start(first), calm_start(second))]
    for one, two in found:
        for event in events_of(first, second):
            after = joined_state(calm_step(first, one, event)[0], calm_step(second, two, event)[0])
            if after not in found:
                found.append(after)
    return found


def pairs_of(count, **settings):
    for seed in range(count):
        rng = random.Random(seed)
        first = drawn_calm_setting(rng, **settings)
        second = drawn_calm_setting(rng, **settings)
        if rng.random() < 0.4:
            at = rng.randrange(first.hops)
            makes = list(first.makes)
            makes[at] = makes[at].but(tells=rng.random() < 0.5, dates=rng.random() < 0.5, durable=rng.random() < 0.5)
            second = Setting(makes, first.kind)
        yield seed, rng, first, second


class CompareTest(unittest.TestCase):
    def test_example(self):
        self.assertEqual(compare(Setting([Make()], Kind(2)), Setting([Make()], Kind(3))),
                         ("parted", [("ask", 1, None), ("wait", 1), ("wait", 1), ("ask", 1, None)]))

    def test_by_hand(self):
        one = Setting([Make()], Kind(2))
        silent = Setting([Make(tells=False)], Kind(2))
        nothing = Setting([Make()], Kind(0))
        ask, wait, change = ("ask", 1, None), ("wait", 1), ("change",)
        for first, second, with_ages, without in (
                (one, Setting([Make()], Kind(3)), [ask, wait, wait, ask], [ask, wait, wait, change, ask]),
                (one, nothing, [ask, wait, ask], [ask, change, ask]), (one, silent, [ask, wait, ask], None),
                (one, Setting([Make(), Make()], Kind(2)), None, None),
                (nothing, Setting([Make()] * 3, Kind(0)), None, None)):
            for rows in ((first, second), (second, first)):
                for ages, story in ((True, with_ages), (False, without)):
                    kind, proof = compare(*rows, ages=ages)
                    self.assertEqual((kind, proof if kind == "parted" else None),
                                     ("same" if story is None else "parted", story))
        self.assertEqual(compare(nothing, Setting([Make()] * 3, Kind(0))), ("same", [((None,), (None, None, None))]))
        self.assertEqual(sorted(compare(nothing, nothing)[1]), [((None,), (None,))])

    def test_ages_are_compared_without_saying_so(self):
        for _, _, first, second in pairs_of(10):
            self.assertEqual(compare(first, second), compare(first, second, ages=True))

    def test_the_shortest_and_first_story(self):
        found = {}
        for seed, _, first, second in pairs_of(60, hops=(1, 1, 2), most=3):
            for ages in (True, False):
                most = 5 if min(first.hops, second.hops) == 1 else 4
                kind, proof = compare(first, second, ages=ages)
                expected = first_parted(first, second, most, ages)
                if kind == "parted" and len(proof) <= most:
                    self.assertEqual(proof, expected, seed)
                else:
                    self.assertIsNone(expected, seed)
                length = len(proof) if kind == "parted" else 0
                found[min(length, 6)] = True
        self.assertTrue({0, 3, 4, 5, 6} <= found.keys(), found)

    def test_both_answers_are_accepted(self):
        kinds = {"same": 0, "parted": 0}
        for seed, _, first, second in pairs_of(200):
            for ages in (True, False):
                kind, proof = compare(first, second, ages=ages)
                kinds[kind] += 1
                if kind == "same":
                    self.assertTrue(is_alike(first, second, proof, ages=ages), seed)
                    self.assertFalse(parts(first, second, proof, ages=ages))
                    self.assertEqual(len(set(proof)), len(proof))
                    self.assertEqual([joined_state(*pair) for pair in proof], proof)
                else:
                    self.assertTrue(parts(first, second, proof, ages=ages), seed)
                    self.assertTrue(is_parted(first, second, proof, ages), seed)
                    self.assertFalse(is_alike(first, second, proof, ages=ages))
        self.assertGreater(min(kinds.values()), 40)

    def test_rows_that_are_the_same_in_other_words(self):
        for first, second in (
                (Setting([Make()], Kind(3)), Setting([Make(grace=2)], Kind(1))),
                (Setting([Make()], Kind(3)), Setting([Make(checks=False, durable=True, room=1)], Kind(3, mark="none"))),
                (Setting([Make()] * 2, Kind(3)), Setting([Make(dates=True), Make()], Kind(3))),
                (Setting([Make(), Make()], Kind(3)), Setting([Make(), Make(), Make()], Kind(3)))):
            self.assertEqual(compare(first, second)[0], "same")
            self.assertEqual(compare(second, first)[0], "same")

    def test_three_hops(self):
        first = Setting([Make(tells=False)] * 3, Kind(6))
        second = Setting([make.but(durable=True) for make in first.makes], Kind(6))
        kind, states = compare(first, second)
        self.assertEqual(kind, "same")
        self.assertTrue(is_alike(first, second, states))


class IsAlikeTest(unittest.TestCase):
    def setUp(self):
        self.first = Setting([Make(), Make(tells=False)], Kind(2))
        self.second = Setting([make.but(durable=True) for make in self.first.makes], Kind(2))
        self.states = compare(self.first, self.second)[1]

    def alike(self, states, **settings):
        found = is_alike(self.first, self.second, states, **settings)
        self.assertIsInstance(found, bool)
        return found

    def test_any_order_and_duplicates(self):
        self.assertGreater(len(self.states), 10)
        for seed in range(5):
            states = self.states * 2
            random.Random(seed).shuffle(states)
            self.assertTrue(self.alike(states))
            self.assertTrue(self.alike(states, ages=False))

    def test_each_state_is_needed(self):
        for at in range(len(self.states)):
            self.assertFalse(self.alike(self.states[:at] + self.states[at + 1:]))

    def test_states_that_no_row_reaches(self):
        # In these both rows keep the same; the steps lead to pairs of the list again.
        more = (((5, 1, 9), None), ((5, 1, 9), None))
        self.assertFalse(self.alike(self.states + [more]))
        more_behind = [(((1, 1, 9), None), ((1, 1, 9), None)), (((1, 1, 9), (0, 0, 0)), ((1, 1, 9), (0, 0, 0))),
                       (((1, 1, 9), (1, 0, 0)), ((1, 1, 9), (1, 0, 0))), (((2, 1, 9), (1, 0, 0)), ((2, 1, 9), (1, 0, 0)))]
        self.assertTrue(self.alike(self.states + [more] + more_behind))
        # Here they keep different things.
        self.assertFalse(self.alike(self.states + [(((0, 1, 1), None), ((0, 0, 0), None))]))
        self.assertFalse(self.alike(self.states + [((None, None), ((0, 0, 0), None))]))

    def test_other_forms(self):
        pair = self.states[-1]
        for bad in (list(pair), pair[:1], (*pair, pair[0]), (pair[0], list(pair[1])), (pair[0], None), None, 5, "pair",
                    (pair[0], pair[1][:1]), (pair[0], (*pair[1], None)), (((0, 2, 2), None), pair[1]),
                    (((0, 0), None), pair[1]), (([0, 0, 0], None), pair[1]), (((-1, 0, 0), None), pair[1]),
                    (((0, -1, 0), None), pair[1]), (((0, 0, -1), None), pair[1]), (((0, 0, 0, 0), None), pair[1]),
                    (((True, 0, 0), None), ((True, 0, 0), None)), (((0, 0, "0"), None), pair[1]),
                    ((0, None), pair[1]), (((False, 0, 0), None), ((0, 0, 0), None))):
            self.assertFalse(self.alike(self.states + [bad]), bad)
        self.assertFalse(self.alike(tuple(self.states)))
        self.assertFalse(self.alike({pair: True for pair in self.states}))
        for value in VALUES:
            self.assertFalse(self.alike(value))

    def test_true_is_no_number(self):
        one = Setting([Make()], Kind(2))
        states = compare(one, one)[1]
        self.assertTrue(is_alike(one, one, states))
        for at, (first, second) in enumerate(states):
            if first[0] is not None and 1 in first[0]:
                entry = tuple(True if item == 1 else item for item in first[0])
                self.assertFalse(is_alike(one, one, states[:at] + [((entry,), second)] + states[at + 1:]))

    def test_ages(self):
        one = Setting([Make()], Kind(2))
        silent = Setting([Make(tells=False)], Kind(2))
        states = compare(one, silent, ages=False)[1]
        self.assertIs(is_alike(one, silent, states, ages=False), True)
        self.assertIs(is_alike(one, silent, states), False)
        self.assertIs(is_alike(one, silent, states, ages=True), False)

    def test_an_ask_that_is_told_differently(self):
        for _, _, first, second in pairs_of(60, hops=(1, 2), most=3):
            states = reached_pairs(first, second)
            for ages in (True, False):
                alike = compare(first, second, ages=ages)[0] == "same"
                self.assertIs(is_alike(first, second, states, ages=ages), alike)
        self.assertFalse(self.alike([]))


class PartsTest(unittest.TestCase):
    ONE = Setting([Make()], Kind(2))
    TWO = Setting([Make(), Make()], Kind(3))
    STORY = [("ask", 1, None), ("wait", 1), ("wait", 1), ("ask", 1, None)]

    def test_stories(self):
        ask, wait, change = ("ask", 1, None), ("wait", 1), ("change",)
        for story, with_ages, without in (
                (self.STORY, True, False), ([ask, wait, wait, change, ask], True, True), (self.STORY[:-1], False, False),
                ([change] + self.STORY, True, False), ([ask, wait, change, wait, ask], True, True),
                (self.STORY + [ask], False, False), (self.STORY + [wait], False, False), ([], False, False),
                ([ask], False, False), ([wait], False, False), ([ask, wait, ask], False, False),
                ([ask, wait, wait, wait, change, ask], False, False), (self.STORY + self.STORY, False, False)):
            self.assertIs(parts(self.ONE, self.TWO, story), with_ages, story)
            self.assertIs(parts(self.TWO, self.ONE, story, ages=True), with_ages, story)
            self.assertIs(parts(self.ONE, self.TWO, story, ages=False), without, story)

    def test_other_events(self):
        for bad in (("wait", 2), ("wait", True), ("wait",), ("stop", 1), ("ask", 2, None), ("ask", 1, 0), ("ask", 1),
                    ("ask", True, None), ("change", 1), ["wait", 1], None, 5, "wait", (), ("told", 1, 0, 0)):
            for index in range(len(self.STORY) + 1):
                story = self.STORY[:index] + [bad] + self.STORY[index:]
                self.assertIs(parts(self.ONE, self.TWO, story), False, bad)
        self.assertIs(parts(self.ONE, self.TWO, [("ask", 1, None), ("wait", 2), ("ask", 1, None)]), False)

    def test_other_values(self):
        self.assertIs(parts(self.ONE, self.TWO, self.STORY), True)
        self.assertIs(parts(self.ONE, self.TWO, tuple(self.STORY)), False)
        for value in VALUES:
            self.assertIs(parts(self.ONE, self.TWO, value), False)

    def test_asks_at_upper_hops(self):
        other = Setting([Make(), Make(tells=False)], Kind(3))
        story = [("ask", 2, None), ("wait", 1), ("ask", 2, None)]
        self.assertIs(parts(self.TWO, other, story), True)
        self.assertIs(parts(self.TWO, other, story, ages=False), False)
        self.assertIs(parts(self.TWO, self.ONE, story), False)


class ErrorsTest(unittest.TestCase):
    CALLS = (lambda first, second: compare(first, second), lambda first, second: is_alike(first, second, None),
             lambda first, second: parts(first, second, None))

    def test_order(self):
        good = Setting([Make()], Kind(2))
        for call in self.CALLS:
            for bad in NOT_CALM:
                for other in (good, bad):
                    self.assertIsNotNone(caught(NotCalm, call, bad, other))
                    self.assertIsNotNone(caught(NotCalm, call, other, bad))
                for worse in WITHOUT_LIFETIME:
                    self.assertIsNotNone(caught(NoLifetime, call, bad, worse))
                    self.assertIsNotNone(caught(NoLifetime, call, worse, bad))
