"""[65]: stories, enacted on rows of messages."""

import random
import unittest

from hopkeep.enacting import enact
from hopkeep.errors import InvalidEvent
from hopkeep.kinds import Kind
from hopkeep.machine import Machine
from hopkeep.makes import Make
from hopkeep.messages import Request
from hopkeep.row import Row
from hopkeep.settings import Clock, Setting
from tests.draws import drawn_setting, drawn_story
from tests.helpers import caught

# Events that each setting of two hops with these bounds allows, and values that are none of its events.
GOOD = [("wait", 1), ("wait", 100000), ("clock", 1, -2), ("clock", 1, 3), ("clock", 2, 0), ("clock", 3, 1),
        ("delay", 1, 4), ("delay", 2, 0), ("lose", 1, "up"), ("lose", 2, "back"), ("stop", 1), ("stop", 2),
        ("change",), ("alike",), ("behind",), ("ask", 1, None), ("ask", 2, None), ("ask", 1, 0), ("ask", 1, 999999),
        ("ask", 2, -1)]
BAD = [None, 5, "change", [], (), ["change"], ["wait", 1], ("wait",), ("wait", 0), ("wait", -1), ("wait", 100001),
       ("wait", True), ("wait", "1"), ("wait", 1, 1), ("clock", 0, 0), ("clock", 4, 0), ("clock", 1, -3),
       ("clock", 1, 4), ("clock", 3, -1), ("clock", 3, 2), ("clock", 1), ("clock", True, 0), ("clock", 1, False),
       ("delay", 0, 0), ("delay", 3, 0), ("delay", 1, 5), ("delay", 1, -1), ("delay", 2, 1), ("delay", 1),
       ("delay", 1, True), ("lose", 0, "up"), ("lose", 3, "up"), ("lose", 1, "down"), ("lose", 1), ("lose", 1, None),
       ("stop", 0), ("stop", 3), ("stop",), ("stop", True), ("stop", 1, 1), ("change", "/", "x"), ("change", 1),
       ("alike", "/", "x"), ("behind", "/", "x"), ("behind", None), ("clip", 1, 5), ("clip",), ("Change",), ("sleep", 1),
       ("ask", 1), ("ask",), ("ask", 0, None), ("ask", 3, None), ("ask", 1, -2), ("ask", 1, 1000000), ("ask", 1, "0"),
       ("ask", 1, True), ("ask", 1, False), ("ask", True, None), ("ask", None, 1), ("ask", 1, None, None),
       ("ask", 1, Request.fetch("/")), ("ask", 1, [1]), (None,), (1, 2), (("change",),), (["wait"], 1)]


def setting_of(**settings):
    given = {"clocks": [Clock(2, 3), Clock(4, 0), Clock(0, 1)], "delays": [4, 0], "loses": True, **settings}
    return Setting([Make(), Make()], Kind(5, mark="weak"), **given)


class EnactTest(unittest.TestCase):
    def test_tellings(self):
        setting = Setting([Make()], Kind(5))
        story = [("ask", 1, None), ("wait", 3), ("change",), ("wait", 1), ("ask", 1, None), ("ask", 1, 3),
                 ("ask", 1, 4), ("ask", 1, -1)]
        # An age below that of the kept answer and a check bring the new content.
        self.assertEqual(enact(setting, story), [(0, 0), (1, 4), (0, 0), (0, 0), (0, 0)])
        self.assertEqual(enact(setting, story[:5]), [(0, 0), (1, 4)])
        self.assertEqual(enact(setting, []), [])
        self.assertEqual(enact(setting, [("change",), ("wait", 2)]), [])

    def test_ages_of_asks(self):
        setting = Setting([Make(grace=None)], Kind(5))
        for age in (None, 4, 5, 999999):
            self.assertEqual(enact(setting, [("ask", 1, None), ("wait", 4), ("ask", 1, age)])[1], (0, 4))
        for age in (3, 0, -1):
            self.assertEqual(enact(setting, [("ask", 1, None), ("wait", 4), ("ask", 1, age)])[1], (0, 0))

    def test_answers_that_are_not_ok(self):
        setting = Setting([Make()], Kind(5), loses=True)
        self.assertEqual(enact(setting, [("lose", 1, "up"), ("ask", 1, None), ("ask", 1, 0), ("lose", 1, "back"),
                                         ("ask", 1, -1), ("ask", 1, None)]), [None, (0, 0), None, (0, 0)])

    def test_each_change_is_new(self):
        setting = Setting([Make()], Kind(9, mark="weak"))
        for changes, late in (([("change",)], 2), ([("change",), ("wait", 1), ("change",)], 3),
                              ([("alike",), ("change",)], 2), ([("behind",), ("behind",)], 0)):
            story = [("ask", 1, None), *changes, ("wait", 2), ("ask", 1, None)]
            self.assertEqual(enact(setting, story)[1], (late, late or 2))

    def test_weak_marks_hide_what_is_alike(self):
        setting = Setting([Make()], Kind(1, mark="weak"))
        for name, late in (("alike", 3), ("change", 0)):
            self.assertEqual(enact(setting, [("ask", 1, None), (name,), ("wait", 3), ("ask", 1, None)])[1], (late, 0))

    def test_behind_waits_for_an_answer(self):
        setting = Setting([Make()], Kind(9))
        story = [("ask", 1, None), ("behind",), ("wait", 2), ("ask", 1, None), ("ask", 1, -1), ("wait", 1),
                 ("ask", 1, None)]
        self.assertEqual(enact(setting, story), [(0, 0), (0, 2), (0, 0), (1, 1)])

    def test_lifetimes_may_be_unknown(self):
        setting = Setting([Make(share=50, cap=4)], Kind(None, dated=True))
        story = [("wait", 4), ("ask", 1, None), ("change",), ("wait", 1), ("ask", 1, None), ("wait", 1),
                 ("ask", 1, None)]
        self.assertEqual(enact(setting, story), [(0, 0), (1, 1), (0, 0)])

    def test_it_is_a_row_with_one_path(self):
        for seed in range(60):
            rng = random.Random(seed)
            setting = drawn_setting(rng)
            story = drawn_story(rng, setting, 40)
            row = Row(setting, [("/", "at first")])
            for count, event in enumerate(story):
                if event[0] in ("change", "alike", "behind"):
                    event = (event[0], "/", f"text {count}")
                elif event[0] == "ask":
                    keep = {None: [], -1: [("keep", "check")]}.get(event[2], [("keep", f"age={event[2]}")])
                    event = ("ask", event[1], Request("get", "/", keep))
                row.play(event)
            expected = [(entry[5], entry[4]) if entry[3] == "ok" else None for entry in row.log]
            self.assertEqual(enact(setting, story), expected, seed)

    def test_the_story_is_not_changed(self):
        story = [("ask", 1, None), ("wait", 1)]
        enact(setting_of(), story)
        self.assertEqual(story, [("ask", 1, None), ("wait", 1)])


class InvalidStoriesTest(unittest.TestCase):
    """What `enact` and a machine refuse."""

    def test_good_events(self):
        setting = setting_of()
        for event in GOOD:
            self.assertEqual(len(enact(setting, [event])), 1 if event[0] == "ask" else 0, event)
            Machine(setting).play(event)

    def test_bad_events_at_each_place(self):
        setting = setting_of()
        machine = Machine(setting)
        for bad in BAD:
            self.assertEqual(caught(InvalidEvent, machine.play, bad).index, 0, bad)
            for index in (0, 1, 4):
                story = GOOD[:index] + [bad] + GOOD[index:6] + [("wait", 0)]
                self.assertEqual(caught(InvalidEvent, enact, setting, story).index, index, bad)
                self.assertEqual(caught(InvalidEvent, machine.run, story).index, index, bad)
        self.assertEqual(machine.time, 0)

    def test_what_only_some_settings_allow(self):
        for settings, bad in (({"loses": False}, ("lose", 1, "up")), ({"clocks": None}, ("clock", 1, 1)),
                              ({"delays": None}, ("delay", 1, 1))):
            setting = setting_of(**settings)
            self.assertEqual(caught(InvalidEvent, enact, setting, [("wait", 1), bad]).index, 1)
            self.assertEqual(caught(InvalidEvent, Machine(setting).play, bad).index, 0)
        for mark in ("strong", "none"):
            setting = Setting([Make()], Kind(5, mark=mark))
            self.assertEqual(caught(InvalidEvent, enact, setting, [("change",), ("alike",)]).index, 1)
            self.assertEqual(caught(InvalidEvent, Machine(setting).run, [("change",), ("alike",)]).index, 1)
