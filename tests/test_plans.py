"""[74]: plans."""

import itertools
import random
import unittest

from hopkeep.errors import InvalidValue, NoLifetime
from hopkeep.kinds import Kind
from hopkeep.makes import Make
from hopkeep.plans import is_plan, plan_asks
from hopkeep.settings import Setting
from hopkeep.worstage import worst
from tests.helpers import caught
from tests.test_machine import WITHOUT_LIFETIME

# With the age -1 an answer is told without any lateness, so the bound is how long it serves.
ONE = Setting([Make()], Kind(5))
ENDLESS = Setting([Make(grace=None)], Kind(5))
MISTAKEN = Setting([Make()], Kind(5, mark="weak"))


def serves(slot, need, reach):
    return slot <= need <= slot + reach


def choices_of_slots(needs, slots, reach):
    """All choices of the fewest slots that serve the needs, the one with the latest slots first."""
    for count in range(len(slots) + 1):
        found = [chosen for chosen in itertools.combinations(slots, count)
                 if all(any(serves(slot, need, reach) for slot in chosen) for need in needs)]
        if found:
            return sorted(found, reverse=True)
    return []


def drawn_times(rng, most=5):
    return sorted(rng.sample(range(12), rng.randrange(most + 1)))


class PlanTest(unittest.TestCase):
    def test_example(self):
        self.assertEqual(plan_asks(ONE, [2, 3, 9], [1, 4, 8], 2), ([1, 8], [2, 9]))

    def test_by_hand(self):
        for needs, slots, bound, plan in (
                ([], [], 0, ([], [])), ([], [1, 2], 3, ([], [])), ([4], [4], 0, ([4], [4])), ([4], [3], 1, ([3], [4])),
                ([4], [3], 0, None), ([4], [5], 9, None), ([4], [], 9, None), ([0], [0], 0, ([0], [0])),
                ([4, 5, 6], [4], 2, ([4], [4])), ([4, 5, 7], [4], 2, None), ([4, 5, 7], [4, 7], 2, ([4, 7], [4, 7])),
                ([4, 7], [1, 2, 3, 4, 5, 6], 3, ([4], [4])), ([4, 8], [1, 2, 3, 4, 5, 6], 3, ([4, 6], [4, 8])),
                ([4, 8], [1, 2, 3, 4], 3, None), ([1, 2, 3], [1, 2, 3], 0, ([1, 2, 3], [1, 2, 3])),
                ([9], [0], 9, ([0], [9])), ([9], [0], 8, None)):
            self.assertEqual(plan_asks(ONE, needs, slots, bound), plan, (needs, slots, bound))

    def test_fewest_and_latest_slots(self):
        outcomes = {True: 0, False: 0}
        for seed in range(500):
            rng = random.Random(seed)
            needs, slots, bound = drawn_times(rng), drawn_times(rng, 7), rng.randrange(6)
            plan = plan_asks(ONE, needs, slots, bound)
            choices = choices_of_slots(needs, slots, bound)
            outcomes[plan is None] += 1
            self.assertEqual(plan is None, not choices)
            if plan is not None:
                chosen, apart = plan
                self.assertEqual(tuple(chosen), choices[0])
                self.assertEqual(len(apart), len(chosen))
                self.assertTrue(is_plan(ONE, needs, slots, bound, plan))
                # The needs are the first ones that the slots before do not serve.
                for index, need in enumerate(apart):
                    self.assertEqual(need, [one for one in needs if not any(serves(slot, one, bound)
                                                                            for slot in chosen[:index])][0])
        self.assertGreater(min(outcomes.values()), 100)

    def test_ages(self):
        # The later an answer may be itself, the shorter it serves.
        for age, late in ((-5, 0), (-1, 0), (0, 0), (1, 1), (3, 3), (4, 4), (9, 4), (None, 4)):
            self.assertEqual(worst(ONE, age=age), late)
            for reach in range(3):
                self.assertEqual(plan_asks(ONE, [7], [7 - reach], late + reach, age=age), ([7 - reach], [7]))
                self.assertIsNone(plan_asks(ONE, [7], [6 - reach], late + reach, age=age))
            if late:
                self.assertIsNone(plan_asks(ONE, [7], [7], late - 1, age=age))
                self.assertEqual(plan_asks(ONE, [], [7], late - 1, age=age), ([], []))
        self.assertEqual(plan_asks(ONE, [7], [5], 2), plan_asks(ONE, [7], [5], 2, age=-1))

    def test_without_a_bound(self):
        for setting, age in ((ENDLESS, None), (MISTAKEN, None), (MISTAKEN, -1), (MISTAKEN, 3)):
            self.assertIsNone(plan_asks(setting, [7], [7], 100, age=age))
            self.assertEqual(plan_asks(setting, [], [7], 100, age=age), ([], []))
            self.assertIs(is_plan(setting, [7], [7], 100, ([7], [7]), age=age), False)
            self.assertIs(is_plan(setting, [], [7], 100, ([], []), age=age), True)
        self.assertEqual(plan_asks(ENDLESS, [7], [7], 4, age=4), ([7], [7]))

    def test_arguments_are_not_changed(self):
        needs, slots = [2, 3, 9], [1, 4, 8]
        plan = plan_asks(ONE, needs, slots, 2)
        is_plan(ONE, needs, slots, 2, plan)
        plan[0].clear()
        self.assertEqual((needs, slots), ([2, 3, 9], [1, 4, 8]))


class IsPlanTest(unittest.TestCase):
    def test_other_choices(self):
        for answer, expected in (
                (([1, 8], [2, 9]), True), (([1, 8], [3, 9]), True), (([1, 8], [2, 3]), False), (([1, 4], [2, 9]), False),
                (([1], [2]), False), (([8], [9]), False), (([1, 4, 8], [2, 3, 9]), False), (([1, 4, 8], [2, 9]), False),
                (([1, 8], [2]), False), (([1, 8], [2, 3, 9]), False), (([8, 1], [2, 9]), False),
                (([1, 8], [9, 2]), False), (([1, 1, 8], [2, 2, 9]), False), (([1, 7], [2, 9]), False),
                (([1, 8], [2, 8]), False), (([], []), False), (([1, 8, 8], [2, 9, 9]), False),
                (([2, 8], [2, 9]), False), (([1, 8], [1, 9]), False)):
            self.assertIs(is_plan(ONE, [2, 3, 9], [1, 4, 8], 2, answer), expected, answer)
        self.assertIs(is_plan(ONE, [4, 5], [1, 2, 3, 4], 3, ([2], [5])), True)
        self.assertIs(is_plan(ONE, [4, 5], [1, 2, 3, 4], 3, ([1], [4])), False)

    def test_needs_that_one_slot_serves(self):
        # The slot 3 is not chosen, but it serves both needs.
        self.assertIs(is_plan(ONE, [3, 5], [2, 3, 5], 2, ([2, 5], [3, 5])), False)
        self.assertIs(is_plan(ONE, [3, 5], [2, 5], 2, ([2, 5], [3, 5])), True)
        self.assertIs(is_plan(ONE, [3, 5], [2, 3, 5], 1, ([2, 5], [3, 5])), True)
        self.assertIs(is_plan(ONE, [1, 3, 5, 9], [1, 3, 9], 2, ([1, 3, 9], [1, 5, 9])), True)
        self.assertIs(is_plan(ONE, [1, 3, 5, 9], [1, 3, 9], 2, ([1, 3, 9], [1, 3, 9])), False)

    def test_other_forms(self):
        good = ([1, 8], [2, 9])
        self.assertIs(is_plan(ONE, [2, 9], [1, 8], 2, good), True)
        for answer in (list(good), ((1, 8), [2, 9]), ([1, 8], (2, 9)), (*good, []), good[:1], None, 5, True, "plan", (),
                       [], {}, (1, 2), (None, None), ([1, 8], None), (["1", "8"], [2, 9]), ([1, None], [2, 9]),
                       ([True, 8], [2, 9]), ([1.0, 8], [2, 9]), ([1, 8], [2, 9.0]), ([[1], 8], [2, 9]),
                       ({1: 1, 8: 8}, [2, 9])):
            self.assertIs(is_plan(ONE, [2, 9], [1, 8], 2, answer), False, answer)
        self.assertIs(is_plan(ONE, [1], [1], 0, ([1], [1])), True)
        self.assertIs(is_plan(ONE, [1], [1], 0, ([True], [1])), False)
        self.assertIs(is_plan(ONE, [1], [1], 0, ([1], [True])), False)
        self.assertIs(is_plan(ONE, [0], [0], 0, ([0], [False])), False)

    def test_without_needs(self):
        for slots in ([], [1, 2]):
            self.assertIs(is_plan(ONE, [], slots, 0, ([], [])), True)
            self.assertIs(is_plan(ONE, [], slots, 0, ([], []), age=None), True)
            for answer in (([1], [1]), ([1], []), ([], [1]), [], (), None, [[], []]):
                self.assertIs(is_plan(ONE, [], slots, 0, answer), False)

    def test_a_need_that_cannot_be_served(self):
        for answer in (([3], [3]), ([3], [9]), ([], []), ([3, 9], [3, 9]), None):
            self.assertIs(is_plan(ONE, [3, 9], [3], 2, answer), False)


class PlanErrorsTest(unittest.TestCase):
    CALLS = (lambda setting, needs, slots, bound: plan_asks(setting, needs, slots, bound),
             lambda setting, needs, slots, bound: is_plan(setting, needs, slots, bound, None, age=None))

    def test_lists(self):
        for bad in ([-1], [1, 1], [2, 1], [0, 5, 4], [-3, 2], [1, 2, 2, 3], [5, -5]):
            for call in self.CALLS:
                self.assertEqual(caught(InvalidValue, call, ONE, bad, [1], 2).name, "needs")
                self.assertEqual(caught(InvalidValue, call, ONE, [1], bad, 2).name, "slots")
                self.assertEqual(caught(InvalidValue, call, ONE, [], bad, 2).name, "slots")

    def test_order(self):
        for call in self.CALLS:
            self.assertEqual(caught(InvalidValue, call, ONE, [-1], [-1], -1).name, "needs")
            self.assertEqual(caught(InvalidValue, call, ONE, [1], [-1], -1).name, "slots")
            self.assertEqual(caught(InvalidValue, call, ONE, [1], [1], -1).name, "bound")
            self.assertEqual(caught(InvalidValue, call, ONE, [], [], -1).name, "bound")
            self.assertEqual(caught(InvalidValue, call, MISTAKEN, [], [], -1).name, "bound")
            for setting in WITHOUT_LIFETIME:
                self.assertIsNotNone(caught(NoLifetime, call, setting, [-1], [-1], -1))
