"""[67] to [71]: sound marks, tables of worst ages, ages of asks, numbers of asks."""

import random
import unittest

from hopkeep.errors import InvalidValue, NoLifetime
from hopkeep.kinds import Kind, serve_limit
from hopkeep.makes import Make, OwnMake, StrictMake
from hopkeep.settings import Clock, Setting
from hopkeep.worstage import fewest_asks, loosest, sound, worst, worst_by_asks, worst_table
from tests.draws import drawn_setting
from tests.helpers import caught
from tests.test_machine import WITHOUT_LIFETIME

ENDLESS = 10 ** 9


def finite(age):
    """An age as a number, where None is greater than all others."""
    return ENDLESS if age is None else age


def shown(age):
    return None if age >= ENDLESS // 2 else age


def facts_of(setting, hop):
    """The letters of the document for a hop: make, L, S, D, C."""
    make = setting.makes[hop - 1]
    clock = setting.clocks[hop - 1]
    limit = serve_limit(make, setting.kind, on_error=setting.loses)
    return (make, limit, clock.behind + clock.ahead, setting.delays[hop - 1],
            clock.behind + setting.clocks[-1].ahead)


def last_of(setting):
    limits = [facts_of(setting, hop)[1] for hop in range(1, setting.hops + 1)]
    return max([1] + [limit for limit in limits if limit is not None])


def rest(setting, hop, above, told):
    make, _, span, delay, slack = facts_of(setting, hop)
    value = max(above[b] + delay + told - b + span for b in range(told + 1))
    return min(value, told + slack) if make.dates else value


def row_of(setting, hop, last, above, earlier):
    """A row as [68] and [71] reckon it; without `earlier` nothing rests."""
    make, limit, _, delay, slack = facts_of(setting, hop)
    out = []
    for told in range(last + 1):
        value = above[told] + delay
        if make.dates and told < last:
            value = min(value, told + slack)
        if earlier is not None and limit is None:
            value = ENDLESS if told == last else max(value, rest(setting, hop, earlier, told))
        elif earlier is not None and limit > 0:
            value = max(value, rest(setting, hop, earlier, min(told, limit - 1)))
        out.append(value)
    return out if make.tells else [out[-1]] * (last + 1)


def table_of(setting, last):
    """The rows of the hops, and one of zeros behind them."""
    rows = [[0] * (last + 1)]
    for hop in range(setting.hops, 0, -1):
        rows = [row_of(setting, hop, last, rows[0], rows[0])] + rows
    return rows


def worst_for(setting, age):
    """[70], word by word."""
    delays = setting.delays
    found = [sum(delays)]
    if age >= 0:
        last = max(last_of(setting), age + 1)
        rows = table_of(setting, last)
        for hop in range(1, setting.hops + 1):
            limit = facts_of(setting, hop)[1]
            if limit != 0:
                told = age if limit is None else min(age, limit - 1)
                found.append(rest(setting, hop, rows[hop], told) + sum(delays[:hop - 1]))
    return shown(max(found))


def by_asks(setting):
    """[71], word by word."""
    last = last_of(setting)
    tables = []
    for asks in range(setting.hops + 1):
        rows = [[0] * (last + 1)]
        for hop in range(setting.hops, 0, -1):
            earlier = tables[-1][hop] if asks else None
            rows = [row_of(setting, hop, last, rows[0], earlier)] + rows
        tables.append(rows)
    return [shown(rows[0][last]) for rows in tables]


class SoundTest(unittest.TestCase):
    def test_only_checks_of_what_is_kept_are_a_danger(self):
        for mark in ("weak", "none"):
            for makes, kind, expected in (
                    ([Make()], {}, False), ([Make(checks=False)], {}, True),
                    ([Make(checks=False), Make()], {}, False), ([Make(), Make(checks=False)], {}, False),
                    ([Make()], {"own": True}, True), ([OwnMake()], {"own": True}, False),
                    ([OwnMake(checks=False), Make()], {"own": True}, True), ([Make()], {"never": True}, True),
                    ([OwnMake(), Make()], {"never": True}, True), ([Make(), OwnMake()], {"own": True}, False),
                    ([Make()], {"check": True}, False), ([StrictMake(checks=False)] * 6, {}, True),
                    ([Make(checks=False)] * 5 + [StrictMake()], {}, False)):
                setting = Setting(makes, Kind(0, mark=mark, dated=True, **kind))
                self.assertIs(sound(setting), expected)
                strong = Setting(makes, Kind(0, mark="strong", dated=True, **kind))
                self.assertIs(sound(strong), True)

    def test_weak_marks(self):
        for settings in ({}, {"dated": True}, {"dated": True, "margin": 999999}):
            self.assertIs(sound(Setting([Make()], Kind(5, mark="weak", **settings))), False)

    def test_margin(self):
        for behind, ahead in ((0, 0), (2, 0), (0, 3), (1000, 1000)):
            clocks = [Clock(1000, 1000), Clock(behind, ahead)]
            span = behind + ahead
            for margin, expected in ((span - 1, False), (span, False), (span + 1, True), (span + 5, True)):
                if margin >= 0:
                    for more in (0, 1, 2):
                        makes, all_clocks = [Make()] * (more + 1), clocks[:1] * more + clocks
                        kind = Kind(5, mark="none", dated=True, margin=margin)
                        self.assertIs(sound(Setting(makes, kind, clocks=all_clocks)), expected)
                        kind = Kind(5, mark="none", dated=False, margin=margin)
                        self.assertIs(sound(Setting(makes, kind, clocks=all_clocks)), True)

    def test_both_conditions(self):
        for checks in (True, False):
            for margin in (0, 1):
                kind = Kind(5, mark="none", dated=True, margin=margin)
                self.assertIs(sound(Setting([Make(checks=checks)], kind)), not checks or margin == 1)


class TableTest(unittest.TestCase):
    def test_examples(self):
        one = Setting([Make()], Kind(5))
        two = Setting([Make(), Make(tells=False)], Kind(2), delays=[1, 0])
        self.assertEqual([worst(one), worst(two), worst(two, age=0), worst_by_asks(two), fewest_asks(two, 2)],
                         [4, 3, 2, [1, 2, 3], 3])
        self.assertEqual(worst_table(two), [[2, 3, 3], [1, 1, 1]])

    def test_rows_by_hand(self):
        for makes, kind, settings, table in (
                ([Make()], Kind(0), {}, [[0, 0]]), ([Make()], Kind(3), {}, [[0, 1, 2, 2]]),
                ([Make()], Kind(3), {"delays": [2]}, [[2, 3, 4, 4]]),
                ([Make(tells=False)], Kind(3), {"delays": [2]}, [[4, 4, 4, 4]]),
                ([Make()], Kind(3), {"clocks": [Clock(1, 2), Clock()]}, [[3, 4, 5, 5]]),
                ([Make(dates=True)], Kind(3), {"clocks": [Clock(1, 2), Clock(0, 1)]}, [[2, 3, 4, 4]]),
                ([Make(dates=True)], Kind(3), {"delays": [4]}, [[0, 1, 2, 4]]),
                ([Make(grace=None)], Kind(3), {}, [[0, None]]),
                ([Make(grace=None, tells=False)], Kind(3), {}, [[None, None]]),
                ([Make()], Kind(3, on_error=2), {"loses": True}, [[0, 1, 2, 3, 4, 4]]),
                ([Make()], Kind(3, on_error=2), {}, [[0, 1, 2, 2]]),
                ([Make(), Make(grace=None)], Kind(2), {}, [[0, 1, None], [0, 1, None]]),
                ([Make(dates=True), Make(grace=None, tells=False)], Kind(2), {}, [[0, 1, None], [None] * 3]),
                ([Make(), Make(grace=None, tells=False)], Kind(2), {}, [[None] * 3, [None] * 3])):
            self.assertEqual(worst_table(Setting(makes, kind, **settings)), table)

    def test_word_by_word(self):
        for seed in range(600):
            setting = drawn_setting(random.Random(seed), hops=(1, 2, 3, 6), marks=("strong", "none"))
            if sound(setting):
                rows = [[shown(age) for age in row] for row in table_of(setting, last_of(setting))[:-1]]
                self.assertEqual(worst_table(setting), rows, seed)
                self.assertEqual(worst(setting), rows[0][-1])
                self.assertEqual(worst(setting, age=None), rows[0][-1])

    def test_settings_that_are_not_sound(self):
        for makes, kind in (([Make()], Kind(3, mark="weak")), ([Make()] * 3, Kind(0, mark="weak")),
                            ([Make(), Make(grace=4)], Kind(2, mark="none", dated=True))):
            setting = Setting(makes, kind, delays=[1] * len(makes))
            self.assertEqual(worst_table(setting), [[None] * (last_of(setting) + 1)] * len(makes))
            self.assertIsNone(worst(setting))
            for age in (-2, -1, 0, 1, 50):
                self.assertIsNone(worst(setting, age=age))
            self.assertEqual(worst_by_asks(setting), [len(makes)] + [None] * len(makes))
            self.assertIsNone(loosest(setting, 10 ** 6))
            self.assertEqual([fewest_asks(setting, len(makes) - 1), fewest_asks(setting, len(makes))], [1, 2])

    def test_lists_are_new(self):
        setting = Setting([Make(tells=False)] * 2, Kind(2))
        table = worst_table(setting)
        table[0][0] = 99
        table.pop()
        worst_by_asks(setting).clear()
        self.assertEqual(worst_table(setting), [[2] * 3, [1] * 3])
        self.assertEqual(worst_by_asks(setting), [0, 1, 2])

    def test_great_limits(self):
        setting = Setting([Make()] * 6, Kind(1999), clocks=[Clock(3, 4)] * 7, delays=[2] * 6)
        self.assertEqual(worst(setting), 1998 + 6 * 7 + 12)
        self.assertEqual(len(worst_table(setting)[0]), 2000)
        self.assertEqual(worst_by_asks(setting), [12 + (1998 + 7 * asks if asks else 0) for asks in range(7)])


class WishTest(unittest.TestCase):
    def test_word_by_word(self):
        for seed in range(250):
            setting = drawn_setting(random.Random(seed), hops=(1, 2, 3), marks=("strong", "none"))
            if sound(setting):
                last = last_of(setting)
                for age in (-1, 0, 1, 2, 3, last - 1, last, last + 1, last + 7):
                    self.assertEqual(worst(setting, age=age), worst_for(setting, age), (seed, age))

    def test_by_hand(self):
        one = Setting([Make(grace=2)], Kind(3), delays=[1])
        self.assertEqual([worst(one, age=age) for age in range(-3, 8)], [1, 1, 1, 1, 2, 3, 4, 5, 5, 5, 5])
        endless = Setting([Make(grace=None)], Kind(3))
        self.assertEqual([worst(endless, age=age) for age in (-1, 0, 3, 4, 2000)], [0, 0, 3, 4, 2000])
        nothing = Setting([Make(), Make()], Kind(0), delays=[3, 4])
        self.assertEqual([worst(nothing, age=age) for age in (-1, 0, 5)], [7, 7, 7])
        # The upper hop hides that its answer is old for any time, so no age helps but a check.
        hidden = Setting([Make(), Make(grace=None, tells=False)], Kind(2), delays=[1, 1])
        self.assertEqual([worst(hidden, age=age) for age in (-1, 0, 1)], [2, None, None])

    def test_loosest_is_the_greatest_that_keeps_the_bound(self):
        kinds = {}
        for seed in range(250):
            setting = drawn_setting(random.Random(seed), marks=("strong", "none", "none", "weak"))
            oldest = worst(setting)
            for bound in (0, 1, 2, 4, 7, 12, 30):
                found = loosest(setting, bound)
                if oldest is not None and oldest <= bound:
                    self.assertEqual(found, "any")
                else:
                    wishes = [age for age in range(-1, last_of(setting))
                              if finite(worst(setting, age=age)) <= bound]
                    self.assertEqual(found, max(wishes, default=None), (seed, bound))
                kinds[min(found, 0) if isinstance(found, int) else found] = True
        self.assertEqual(kinds, {"any": True, None: True, -1: True, 0: True})

    def test_loosest_by_hand(self):
        setting = Setting([Make(grace=2)], Kind(3), delays=[1])
        self.assertEqual([loosest(setting, bound) for bound in range(7)], [None, 0, 1, 2, 3, "any", "any"])
        # Without a limit there are only the columns 0 and 1, so no age above 0 is looked at.
        endless = Setting([Make(grace=None)], Kind(3), delays=[1])
        self.assertEqual([loosest(endless, bound) for bound in (0, 1, 2, 99)], [None, 0, 0, 0])
        both = Setting([Make(grace=None), Make(grace=1)], Kind(3))
        self.assertEqual([loosest(both, bound) for bound in (0, 1, 2, 3, 4, 99)], [0, 1, 2, 3, 3, 3])


class AsksTest(unittest.TestCase):
    def test_word_by_word(self):
        for seed in range(400):
            setting = drawn_setting(random.Random(seed), hops=(1, 2, 3, 5))
            expected = by_asks(setting)
            if not sound(setting):
                expected = [sum(setting.delays)] + [None] * setting.hops
            found = worst_by_asks(setting)
            self.assertEqual(found, expected, seed)
            self.assertEqual(found[0], sum(setting.delays))
            self.assertEqual(found[-1], worst(setting))

    def test_fewest_asks_around_each_entry(self):
        for seed in range(150):
            setting = drawn_setting(random.Random(seed), hops=(1, 2, 3, 5))
            entries = worst_by_asks(setting)
            for entry in entries:
                for bound in (0, 1, 1000) if entry is None else (max(0, entry - 1), entry, entry + 1):
                    over = [asks for asks, age in enumerate(entries, 1) if finite(age) > bound]
                    self.assertEqual(fewest_asks(setting, bound), over[0] if over else None)

    def test_by_hand(self):
        setting = Setting([Make(tells=False)] * 3, Kind(3), delays=[0, 1, 0])
        self.assertEqual(worst_by_asks(setting), [1, 3, 5, 7])
        self.assertEqual([fewest_asks(setting, bound) for bound in range(9)], [1, 2, 2, 3, 3, 4, 4, None, None])


class ErrorsTest(unittest.TestCase):
    def test_bounds_below_zero(self):
        for setting in (Setting([Make()], Kind(5)), Setting([Make()], Kind(5, mark="weak"))):
            for call in (loosest, fewest_asks):
                self.assertEqual(caught(InvalidValue, call, setting, -1).name, "bound")

    def test_lifetimes_come_first(self):
        for setting in WITHOUT_LIFETIME:
            for call in (sound, worst_table, worst, worst_by_asks):
                self.assertIsNotNone(caught(NoLifetime, call, setting))
            self.assertIsNotNone(caught(NoLifetime, worst, setting, age=3))
            for call in (loosest, fewest_asks):
                self.assertIsNotNone(caught(NoLifetime, call, setting, -1))
