"""[73]: the plain search."""

import random
import unittest

from hopkeep.errors import InvalidValue, NoLifetime
from hopkeep.kinds import Kind
from hopkeep.makes import Make, OwnMake, StrictMake
from hopkeep.searching import search
from hopkeep.settings import Clock, Setting
from hopkeep.worstage import fewest_asks, worst
from tests.all_stories import greatest_latenesses
from tests.draws import drawn_setting
from tests.helpers import caught
from tests.test_machine import WITHOUT_LIFETIME

MAKES = (Make(), Make(tells=False), Make(dates=True), Make(tells=False, dates=True), Make(checks=False),
         Make(grace=1), Make(grace=None), Make(error_grace=2), Make(durable=True), StrictMake(grace=2),
         OwnMake(), OwnMake(tells=False))


class SearchTest(unittest.TestCase):
    def assert_like_the_reckoning(self, setting):
        for bound in range(6):
            for ticks in range(7):
                # What is late by more than the bound takes more ticks than that.
                expected = fewest_asks(setting, bound) if ticks > bound else None
                self.assertEqual(search(setting, bound, ticks), expected, (bound, ticks))

    def test_drawn_settings(self):
        for seed in range(250):
            self.assert_like_the_reckoning(drawn_setting(random.Random(seed), hops=(1, 2, 2), marks=("strong",),
                                                         most_off=1, most_delay=1))

    def test_three_hops(self):
        for seed in range(40):
            self.assert_like_the_reckoning(drawn_setting(random.Random(seed), hops=(3,), marks=("strong",),
                                                         most_off=1, most_delay=1))

    def test_all_makes(self):
        clocks = [Clock(1, 1), Clock(0, 1), Clock(1, 0)]
        for make in MAKES:
            for kind in (Kind(2), Kind(1, on_error=2), Kind(1, late=1, strict=True), Kind(3, own=True)):
                self.assert_like_the_reckoning(Setting([make], kind, clocks=clocks[:2], loses=True))
            for other in (Make(), Make(tells=False, dates=True)):
                self.assert_like_the_reckoning(Setting([make, other], Kind(2), clocks=clocks, delays=[1, 0]))
                self.assert_like_the_reckoning(Setting([other, make], Kind(1, on_error=1), delays=[0, 1], loses=True))

    def test_by_hand(self):
        setting = Setting([Make(), Make(tells=False)], Kind(3))
        self.assertEqual(worst(setting), 4)
        self.assertEqual([search(setting, bound, 6) for bound in range(6)], [2, 2, 3, 3, None, None])
        self.assertEqual([search(setting, 3, ticks) for ticks in range(7)], [None] * 4 + [3] * 3)
        slow = Setting([Make()], Kind(0), delays=[1])
        self.assertEqual([search(slow, 0, ticks) for ticks in range(3)], [None, 1, 1])
        self.assertIsNone(search(slow, 1, 6))

    def test_it_finds_what_all_short_stories_do(self):
        for setting, ticks in ((Setting([Make(dates=True)], Kind(2), clocks=[Clock(1, 1), Clock(0, 1)]), 3),
                               (Setting([Make(tells=False), Make()], Kind(1)), 2),
                               (Setting([Make(error_grace=1)], Kind(1), loses=True, delays=[1]), 3)):
            latest = greatest_latenesses(setting, 2, ticks, wishes=(None, 0))[0]
            for bound in range(ticks):
                over = [asks for asks, late in enumerate(latest, 1) if late > bound]
                found = search(setting, bound, ticks)
                self.assertEqual(found if found in (1, 2) else None, over[0] if over else None, bound)

    def test_errors(self):
        self.assertEqual(caught(InvalidValue, search, Setting([Make()], Kind(5)), -1, 3).name, "bound")
        for setting in WITHOUT_LIFETIME:
            self.assertIsNotNone(caught(NoLifetime, search, setting, -1, 3))
