"""[69] to [71]: the reckoned ages against stories that are played."""

import random
import unittest

from hopkeep.chains import late_story
from hopkeep.enacting import enact
from hopkeep.kinds import Kind
from hopkeep.machine import Machine
from hopkeep.makes import Make, StrictMake
from hopkeep.settings import Clock, Setting
from hopkeep.worstage import fewest_asks, sound, worst, worst_by_asks
from tests.all_stories import greatest_latenesses
from tests.draws import drawn_setting, drawn_story

# Settings, the number of asks, and the longest wait before one of them.
SMALL = [
    (Setting([Make()], Kind(2), delays=[1]), 2, 3),
    (Setting([Make(grace=1, checks=False)], Kind(1), clocks=[Clock(1, 0), Clock()]), 2, 4),
    (Setting([Make(dates=True, tells=False)], Kind(2), clocks=[Clock(0, 1), Clock(0, 1)]), 2, 4),
    (Setting([Make(error_grace=2)], Kind(1), loses=True), 2, 3),
    (Setting([StrictMake(grace=2), Make(tells=False)], Kind(1, late=1)), 3, 2),
    (Setting([Make(dates=True), Make(tells=False, durable=True)], Kind(2)), 3, 2),
    (Setting([Make(), Make(tells=False)], Kind(1, mark="none"), delays=[0, 1]), 3, 1),
]


class AllStoriesTest(unittest.TestCase):
    def test_small_rows(self):
        for setting, asks, waits in SMALL:
            latest, by_wish = greatest_latenesses(setting, asks, waits)
            entries = worst_by_asks(setting) + [worst(setting)] * asks
            self.assertEqual(latest, entries[:asks])
            for wish, late in by_wish.items():
                self.assertEqual(late, worst(setting, age=wish))
            self.assertEqual(latest[-1], worst(setting))

    def test_stops_make_nothing_later(self):
        setting = Setting([Make(), Make(tells=False)], Kind(2))
        self.assertEqual(greatest_latenesses(setting, 2, 2, wishes=(None,), stops=True)[0], worst_by_asks(setting)[:2])


class DrawnStoriesTest(unittest.TestCase):
    def test_no_ask_is_later_than_the_worst(self):
        reached = 0
        for seed in range(400):
            rng = random.Random(seed)
            setting = drawn_setting(rng, marks=("strong", "none"), graces=(0, 0, 2))
            oldest = worst(setting)
            if oldest is None:
                continue
            tellings = enact(setting, drawn_story(rng, setting, 60))
            latest = max([late for late, _ in filter(None, tellings)], default=0)
            self.assertLessEqual(latest, oldest, seed)
            reached += latest == oldest
        self.assertGreater(reached, 30)

    def test_the_last_ask_is_within_its_age(self):
        for seed in range(300):
            rng = random.Random(seed)
            setting = drawn_setting(rng, marks=("strong", "none"))
            if not sound(setting):
                continue
            for age in (-1, 0, 1, 2, 3):
                oldest = worst(setting, age=age)
                for _ in range(6):
                    tellings = Machine(setting).run(drawn_story(rng, setting, 25) + [("ask", 1, age)])
                    if tellings[-1] is not None and oldest is not None:
                        self.assertLessEqual(tellings[-1][0], oldest, (seed, age))

    def test_stories_of_few_asks_are_within_their_entries(self):
        for seed in range(400):
            rng = random.Random(seed)
            setting = drawn_setting(rng, graces=(0, 2))
            entries = worst_by_asks(setting)
            count = 0
            story = []
            for event in drawn_story(rng, setting, 30):
                if event[0] == "ask":
                    # The events before it and this ask, as the last one at hop 1.
                    telling = Machine(setting).run(story + [("ask", 1, None)])[-1]
                    entry = entries[min(count, setting.hops)]
                    if telling is not None and entry is not None:
                        self.assertLessEqual(telling[0], entry, seed)
                    count += 1
                story.append(event)


class EachLatenessTest(unittest.TestCase):
    def test_each_number_up_to_the_worst_is_reached(self):
        for seed in range(300):
            setting = drawn_setting(random.Random(seed), hops=(1, 2, 3, 6))
            oldest = worst(setting)
            numbers = [0, 1, 5, 20, 300] if oldest is None else range(oldest + 1)
            for late in numbers:
                story = late_story(setting, late)
                self.assertEqual(story[-1], ("ask", 1, None))
                tellings = enact(setting, story)
                self.assertEqual(tellings[-1][0], late, (seed, late))
                self.assertEqual(len(tellings), 1 if late == 0 else fewest_asks(setting, late - 1), (seed, late))
