"""[72]: verdicts, covers and stories that break a bound."""

import random
import unittest

from hopkeep.enacting import enact
from hopkeep.errors import InvalidValue, NoLifetime
from hopkeep.kinds import Kind
from hopkeep.makes import Make, OwnMake
from hopkeep.settings import Clock, Setting
from hopkeep.verdicts import breaks, covers, judge
from hopkeep.worstage import fewest_asks, sound, worst, worst_table
from tests.draws import drawn_setting
from tests.helpers import caught
from tests.test_machine import WITHOUT_LIFETIME

VALUES = [None, True, False, 0, 1, "kept", "", (), [], {}, [[]], [()], [None], [[None]], [[0]], [0], "ask", [1, 2],
          ["ask"], [("ask",)], [("ask", 1)], [None, None], [("ask", 1, None), None], [{"ask": 1}], [["ask", 1, None]],
          object(), 1.5]


def first_sound(seed, **settings):
    """The first drawn setting with sound marks and a bound, from this seed on."""
    while True:
        setting = drawn_setting(random.Random(seed), marks=("strong", "none"), graces=(0, 2), **settings)
        if sound(setting) and worst(setting) > 0:
            return setting
        seed += 1000


class JudgeTest(unittest.TestCase):
    def test_exactly_one_of_the_two(self):
        for seed in range(250):
            setting = drawn_setting(random.Random(seed), hops=(1, 2, 3, 6))
            oldest = worst(setting)
            for bound in {0, 1, 3, 9, 40, oldest or 0, max(0, (oldest or 0) - 1), (oldest or 0) + 1}:
                kind, proof = judge(setting, bound)
                table = worst_table(setting)
                if fewest_asks(setting, bound) is None:
                    self.assertEqual(kind, "kept")
                    self.assertTrue(covers(setting, bound, proof))
                    self.assertFalse(breaks(setting, bound, proof))
                else:
                    self.assertEqual(kind, "broken")
                    self.assertTrue(breaks(setting, bound, proof), (seed, bound))
                    self.assertFalse(covers(setting, bound, proof))
                    self.assertFalse(covers(setting, bound, table))

    def test_stories_have_the_fewest_asks(self):
        for seed in range(250):
            setting = drawn_setting(random.Random(seed), hops=(1, 2, 3, 6))
            for bound in (0, 2, 5, 11, 50):
                kind, story = judge(setting, bound)
                if kind == "broken":
                    tellings = enact(setting, story)
                    self.assertEqual(len(tellings), fewest_asks(setting, bound), (seed, bound))
                    self.assertEqual(story[-1], ("ask", 1, None))
                    self.assertGreater(tellings[-1][0], bound)

    def test_great_bounds(self):
        clocks = [Clock(1000, 1000)] * 7
        for makes, kind in (([Make(grace=None)], Kind(3)), ([Make()], Kind(3, mark="weak")),
                            ([Make()] * 6, Kind(3, mark="none", dated=True, margin=2000)),
                            ([Make()] * 5 + [Make(grace=None, tells=False)], Kind(3)),
                            ([Make(grace=None)] + [Make(tells=False, dates=True)] * 5, Kind(999)),
                            ([Make(checks=False, grace=None), Make(checks=True)], Kind(1, mark="weak"))):
            setting = Setting(makes, kind, clocks=clocks[:len(makes) + 1], delays=[1000] * len(makes))
            for bound in (0, 999, 6000, 99999, 100000, 199999, 200000):
                kind, story = judge(setting, bound)
                self.assertEqual(kind, "broken")
                self.assertTrue(breaks(setting, bound, story))
                # The delays count, too; no story has more than seven asks, and none passes a link twice.
                self.assertLess(sum(event[1] for event in story if event[0] == "wait") + 6000, 240000)

    def test_the_hop_that_is_mistaken(self):
        # Only a hop that checks what it keeps takes another content for the one that it keeps.
        for makes in ([Make(checks=False), OwnMake()], [Make(), OwnMake()], [OwnMake(checks=False), OwnMake(), OwnMake()],
                      [OwnMake(), Make(), OwnMake(checks=False)], [OwnMake(checks=False), Make(), OwnMake()]):
            for kind in (Kind(2, mark="weak", own=True), Kind(2, mark="none", dated=True, margin=1, own=True)):
                setting = Setting(makes, kind, clocks=[Clock()] * len(makes) + [Clock(1, 0)])
                for bound in (0, 3, 50):
                    kind_of_answer, story = judge(setting, bound)
                    self.assertEqual(kind_of_answer, "broken")
                    self.assertTrue(breaks(setting, bound, story), (story, bound))

    def test_by_hand(self):
        setting = Setting([Make()], Kind(5))
        self.assertEqual(judge(setting, 4), ("kept", [[0, 1, 2, 3, 4, 4]]))
        self.assertEqual(judge(setting, 10 ** 9), ("kept", [[0, 1, 2, 3, 4, 4]]))
        self.assertEqual(judge(setting, 3), ("broken", [("behind",), ("ask", 1, None), ("wait", 4), ("ask", 1, None)]))

    def test_errors(self):
        setting = Setting([Make()], Kind(5))
        for call in (lambda one: judge(one, -1), lambda one: covers(one, -1, None), lambda one: breaks(one, -1, None)):
            self.assertEqual(caught(InvalidValue, call, setting).name, "bound")
            for other in WITHOUT_LIFETIME:
                self.assertIsNotNone(caught(NoLifetime, call, other))


class CoversTest(unittest.TestCase):
    def test_a_lower_entry_covers_nothing(self):
        for seed in range(60):
            setting = first_sound(seed)
            bound = worst(setting)
            table = worst_table(setting)
            self.assertIs(covers(setting, bound, table), True)
            for row in table:
                for column, age in enumerate(row):
                    row[column] = age - 1
                    self.assertIs(covers(setting, bound, table), False)
                    row[column] = age

    def test_greater_entries_cover_if_the_rows_below_do(self):
        for seed in range(60):
            rng = random.Random(seed)
            setting = first_sound(seed)
            table = worst_table(setting)
            bound = table[0][-1] + 3
            table[0][rng.randrange(len(table[0]))] += 2
            self.assertIs(covers(setting, bound, table), True)
            table[0][-1] = bound
            self.assertIs(covers(setting, bound, table), True)
            self.assertIs(covers(setting, bound - 1, table), False)
            table[0][-1] = None
            self.assertIs(covers(setting, bound, table), False)

    def test_the_rows_are_reckoned_from_those_above(self):
        setting = Setting([Make(), Make()], Kind(2), delays=[1, 0])
        table = worst_table(setting)
        self.assertEqual(table, [[1, 2, 2], [0, 1, 1]])
        self.assertIs(covers(setting, 9, [[1, 2, 2], [0, 1, 2]]), False)
        self.assertIs(covers(setting, 9, [[1, 2, 3], [0, 1, 2]]), True)
        self.assertIs(covers(setting, 9, [[4, 5, 5], [3, 3, 3]]), True)
        self.assertIs(covers(setting, 9, [[4, 5, 5], [3, 3, None]]), False)
        self.assertIs(covers(setting, 9, [[None, None, 5], [3, 3, 3]]), True)
        self.assertIs(covers(setting, 9, [[None, None, None], [3, 3, 3]]), False)
        self.assertIs(covers(setting, 5, [[4, 5, 5], [3, 3, 3]]), True)
        self.assertIs(covers(setting, 4, [[4, 5, 5], [3, 3, 3]]), False)
        dated = Setting([Make(dates=True), Make(tells=False, grace=None)], Kind(2))
        self.assertEqual(worst_table(dated), [[0, 1, None], [None, None, None]])
        self.assertIs(covers(dated, 9, [[0, 1, 9], [None, None, None]]), False)

    def test_other_forms(self):
        for seed in range(20):
            setting = first_sound(seed)
            bound = worst(setting)
            table = worst_table(setting)
            more = [row + [row[-1]] for row in table]
            less = [row[:-1] for row in table]
            texts = [[str(age) for age in row] for row in table]
            for other in (tuple(table), [tuple(row) for row in table], table + [table[0]], table[:-1], more, less,
                          [table], texts, table[:-1] + [None], table[:-1] + [table[-1][:-1] + ["9"]],
                          [[-1 if age == 0 else age for age in row[:-1]] + [-1] for row in table],
                          [row[:-1] + [float(row[-1])] for row in table], {0: table[0]}):
                self.assertIs(covers(setting, bound, other), False, other)
        for value in VALUES:
            self.assertIs(covers(first_sound(1), 10 ** 6, value), False)

    def test_true_is_no_age(self):
        setting = Setting([Make(tells=False)], Kind(2))
        self.assertIs(covers(setting, 1, [[1, 1, 1]]), True)
        for row in ([True, 1, 1], [1, True, 1], [1, 1, True]):
            self.assertIs(covers(setting, 1, [row]), False)
        nothing = Setting([Make()], Kind(0))
        self.assertIs(covers(nothing, 0, [[0, 0]]), True)
        self.assertIs(covers(nothing, 0, [[False, 0]]), False)

    def test_settings_that_are_not_sound(self):
        setting = Setting([Make()], Kind(2, mark="weak"))
        for table in (worst_table(setting), [[9, 9, 9]], [[0, 1, 1]]):
            self.assertIs(covers(setting, 9, table), False)
        # Without checks the same table is a cover.
        self.assertIs(covers(Setting([Make(checks=False)], Kind(2, mark="weak")), 9, [[0, 1, 1]]), True)
        self.assertIs(covers(Setting([Make()], Kind(2, mark="weak", own=True)), 9, [[0, 0]]), True)
        self.assertIs(covers(Setting([OwnMake()], Kind(2, mark="weak", own=True)), 9, [[0, 1, 1]]), False)


class BreaksTest(unittest.TestCase):
    STORY = [("behind",), ("ask", 1, None), ("wait", 3), ("ask", 1, None)]

    def test_the_lateness_of_the_last_ask(self):
        setting = Setting([Make(), Make()], Kind(5))
        for bound, expected in ((0, True), (2, True), (3, False), (4, False)):
            self.assertIs(breaks(setting, bound, self.STORY), expected)
        for last, expected in ((("ask", 2, None), True), (("ask", 1, 3), True), (("ask", 1, 2), False),
                               (("ask", 1, -1), False)):
            self.assertIs(breaks(setting, 2, self.STORY[:-1] + [last]), expected, last)
        # An earlier ask that is late enough does not count.
        self.assertIs(breaks(setting, 2, self.STORY + [("wait", 9), ("ask", 1, None)]), False)

    def test_other_last_events(self):
        setting = Setting([Make()], Kind(5), loses=True)
        for last in (("wait", 1), ("change",), ("behind",), ("stop", 1), ("lose", 1, "up")):
            self.assertIs(breaks(setting, 2, self.STORY + [last]), False)
        self.assertIs(breaks(setting, 2, self.STORY[:-1]), False)
        self.assertIs(breaks(setting, 0, [("ask", 1, None)]), False)
        self.assertIs(breaks(setting, 0, []), False)

    def test_answers_that_are_not_ok(self):
        setting = Setting([Make()], Kind(2), loses=True)
        story = [("behind",), ("ask", 1, None), ("wait", 3), ("lose", 1, "up"), ("ask", 1, None)]
        self.assertIs(breaks(setting, 0, story), False)

    def test_events_that_are_not_allowed(self):
        setting = Setting([Make()], Kind(5))
        for bad in (("lose", 1, "up"), ("alike",), ("clock", 1, 1), ("delay", 1, 1), ("wait", 0), ("stop", 2),
                    ("ask", 2, None), ("clip", 1, 2), ("change", "/", "x"), ["wait", 1], ("wait", True), None, 5,
                    ("ask", 1, True), ("ask", True, None), "wait", {"wait": 1}):
            for index in range(len(self.STORY) + 1):
                self.assertIs(breaks(setting, 2, self.STORY[:index] + [bad] + self.STORY[index:]), False, bad)
        for last in (("ask", 1, 1000000), ("ask", 1, -2), ["ask", 1, None], ("ask", 1), ("ask", True, None)):
            self.assertIs(breaks(setting, 2, self.STORY[:-1] + [last]), False, last)

    def test_other_values(self):
        setting = Setting([Make()], Kind(5))
        self.assertIs(breaks(setting, 2, self.STORY), True)
        self.assertIs(breaks(setting, 2, tuple(self.STORY)), False)
        for value in VALUES:
            self.assertIs(breaks(setting, 0, value), False, value)

    def test_settings_that_are_not_sound(self):
        weak = Setting([Make()], Kind(1, mark="weak"))
        story = [("ask", 1, None), ("alike",), ("wait", 3), ("ask", 1, None)]
        self.assertIs(breaks(weak, 2, story), True)
        self.assertIs(breaks(weak, 3, story), False)
        self.assertIs(breaks(Setting([Make(checks=False)], Kind(1, mark="weak")), 2, story), False)
