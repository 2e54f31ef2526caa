"""[66]: the machine, compared with rows of messages."""

import random
import unittest

from hopkeep.enacting import enact
from hopkeep.errors import InvalidEvent, NoLifetime
from hopkeep.kinds import Kind
from hopkeep.machine import Machine
from hopkeep.makes import Make, OwnMake, StrictMake
from hopkeep.settings import Clock, Setting
from tests.draws import drawn_event, drawn_setting, drawn_story
from tests.helpers import caught

WITHOUT_LIFETIME = [Setting([Make()], Kind(None)), Setting([Make(), OwnMake()], Kind(None, shared_lasts=3)),
                    Setting([OwnMake(), Make()], Kind(None, shared_lasts=3)),
                    Setting([Make(share=50, cap=9)], Kind(None, dated=True)), Setting([Make()], Kind(None, never=True))]


class MachineTest(unittest.TestCase):
    def assert_like_a_row(self, setting, story):
        expected = enact(setting, story)
        self.assertEqual(Machine(setting).run(story), expected, story)
        machine = Machine(setting)
        self.assertEqual([machine.play(event) for event in story],
                         self.with_nones(story, expected))

    def with_nones(self, story, tellings):
        """The results of all events for the tellings of the asks."""
        rest = list(tellings)
        return [rest.pop(0) if event[0] == "ask" else None for event in story]

    def test_drawn_stories(self):
        for seed in range(400):
            rng = random.Random(seed)
            setting = drawn_setting(rng, hops=(1, 2, 3, 3, 6))
            self.assert_like_a_row(setting, drawn_story(rng, setting, rng.choice((20, 60, 90))))

    def test_long_waits(self):
        for seed in range(100):
            rng = random.Random(seed)
            setting = drawn_setting(rng, graces=(None,))
            story = [("wait", 90000) if event[0] == "wait" else event for event in drawn_story(rng, setting, 40)]
            self.assert_like_a_row(setting, story)

    def test_same_that_is_passed_without_being_kept(self):
        # Hop 2 forgets what it kept; hop 1 checks, and the answer passes hop 2, which asks again afterwards.
        setting = Setting([Make(), Make()], Kind(2))
        story = [("ask", 1, None), ("wait", 2), ("stop", 2), ("ask", 1, None), ("behind",), ("wait", 1),
                 ("ask", 2, None), ("wait", 1), ("ask", 2, None), ("ask", 1, None)]
        self.assertEqual(enact(setting, story), [(0, 0), (0, 0), (0, 0), (1, 1), (1, 1)])
        self.assert_like_a_row(setting, story)

    def test_same_that_makes_a_newer_content_older(self):
        # Without marks hop 2 takes what hop 1 keeps for its own older content, and tells the older age.
        setting = Setting([Make(), Make()], Kind(3, mark="none", dated=True, margin=1), loses=True)
        story = [("wait", 1), ("ask", 2, None), ("change",), ("wait", 2), ("ask", 1, -1), ("wait", 1),
                 ("lose", 1, "back"), ("ask", 1, -1), ("wait", 2), ("ask", 1, None), ("wait", 2), ("ask", 1, None)]
        self.assert_like_a_row(setting, story)

    def test_all_makes(self):
        for make in (Make(), Make(tells=False), Make(dates=True), Make(checks=False), Make(grace=2), Make(grace=None),
                     Make(error_grace=3), Make(durable=True), StrictMake(grace=2, error_grace=2), OwnMake(),
                     OwnMake(tells=False, dates=True)):
            for other in (Make(), Make(tells=False)):
                for kind in (Kind(2), Kind(0), Kind(2, own=True), Kind(2, check=True, on_error=3), Kind(2, never=True),
                             Kind(2, shared_lasts=4), Kind(2, strict=True, on_error=9), Kind(2, mark="weak")):
                    setting = Setting([make, other], kind, clocks=[Clock(1, 1)] * 3, delays=[1, 1], loses=True)
                    rng = random.Random(66)
                    self.assert_like_a_row(setting, drawn_story(rng, setting, 50))

    def test_time(self):
        machine = Machine(Setting([Make()], Kind(5), delays=[4]))
        self.assertEqual(machine.time, 0)
        machine.run([("wait", 3), ("delay", 1, 4), ("ask", 1, None), ("ask", 1, None)])
        self.assertEqual(machine.time, 7)
        machine.play(("ask", 1, -1))
        self.assertEqual(machine.time, 11)

    def test_a_run_that_fails_changes_nothing(self):
        for seed in range(40):
            rng = random.Random(seed)
            setting = drawn_setting(rng)
            before, failing, behind = [drawn_story(rng, setting, 15) for _ in range(3)]
            machine = Machine(setting)
            machine.run(before)
            index = rng.randrange(len(failing) + 1)
            error = caught(InvalidEvent, machine.run, failing[:index] + [("sleep", 1)] + failing[index:])
            self.assertEqual(error.index, index)
            self.assertEqual(caught(InvalidEvent, machine.play, ("sleep", 1)).index, 0)
            asks = len([event for event in before if event[0] == "ask"])
            self.assertEqual(machine.run(behind), enact(setting, before + behind)[asks:])

    def test_copies_are_apart(self):
        for seed in range(60):
            rng = random.Random(seed)
            setting = drawn_setting(rng)
            before, one, two = [drawn_story(rng, setting, 20) for _ in range(3)]
            first = Machine(setting)
            tellings = first.run(before)
            second = first.copy()
            self.assertEqual(second.time, first.time)
            # The two go on in turns.
            found = [[], []]
            for events in zip(one, two):
                for machine, event, results in zip((first, second), events, found):
                    result = machine.play(event)
                    if event[0] == "ask":
                        results.append(result)
            self.assertEqual(tellings + found[0], enact(setting, before + one))
            self.assertEqual(tellings + found[1], enact(setting, before + two))

    def test_copies_know_what_the_origin_knows(self):
        for kind, story in (
                (Kind(1, mark="none", dated=True), [("ask", 1, None), ("wait", 5), ("change",)]),
                (Kind(1, mark="weak"), [("change",), ("ask", 1, None), ("alike",), ("wait", 5)]),
                (Kind(1, mark="strong"), [("change",), ("ask", 1, None), ("wait", 5)]),
                (Kind(1), [("ask", 1, None), ("wait", 5), ("behind",)])):
            setting = Setting([Make()], kind)
            machine = Machine(setting)
            machine.run(story)
            behind = [("ask", 1, None), ("wait", 1), ("ask", 1, -1)]
            self.assertEqual(machine.copy().run(behind), enact(setting, story + behind)[1:])

    def test_ages_and_readings_at_the_greatest_number(self):
        setting = Setting([Make(), Make(grace=None)], Kind(4, late=1))
        for ticks in (999998, 999999, 1000000):
            waits = [("wait", 100000)] * 9 + [("wait", ticks - 900000)]
            self.assert_like_a_row(setting, [("ask", 2, None), *waits, ("ask", 1, None), ("ask", 2, None)])
        dated = Setting([Make(dates=True, grace=None)], Kind(4))
        undated = Setting([Make()], Kind(1, mark="none", dated=True))
        compared = Setting([Make(dates=True), Make(tells=False, grace=None)], Kind(4))
        for ticks in (999999, 1000000):
            waits = [("wait", 100000)] * 9 + [("wait", ticks - 900000)]
            self.assert_like_a_row(dated, [*waits, ("ask", 1, None), ("wait", 3), ("ask", 1, None)])
            self.assert_like_a_row(compared, [*waits, ("ask", 2, None), ("wait", 3), ("ask", 1, None)])
            self.assert_like_a_row(undated, [*waits, ("change",), ("ask", 1, None), ("wait", 3), ("change",),
                                             ("ask", 1, None), ("wait", 3), ("ask", 1, None)])

    def test_empty_run(self):
        machine = Machine(Setting([Make()], Kind(5)))
        self.assertEqual(machine.run([]), [])

    def test_lifetimes_must_be_known(self):
        for setting in WITHOUT_LIFETIME:
            self.assertIsNotNone(caught(NoLifetime, Machine, setting))
            self.assertEqual(len(enact(setting, [("ask", 1, None)])), 1)

    def test_results_of_play(self):
        rng = random.Random(1)
        setting = drawn_setting(rng, marks=("weak",))
        machine = Machine(setting)
        for _ in range(200):
            event = drawn_event(rng, setting)
            result = machine.play(event)
            self.assertTrue(result is None or (event[0] == "ask" and isinstance(result, tuple)))
