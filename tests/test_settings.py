"""[44]: clocks and settings."""

import unittest

from hopkeep.errors import InvalidValue
from hopkeep.kinds import Kind
from hopkeep.makes import Make, OwnMake
from hopkeep.settings import Clock, Setting
from tests.helpers import caught

KIND = Kind(5)
MAKES = [Make(), OwnMake(), Make(grace=1), Make(grace=2)]
CLOCKS = [Clock(at, 2 * at) for at in range(5)]
DELAYS = [1, 0, 1000, 7]


class ClockTest(unittest.TestCase):
    def test_attributes(self):
        for behind, ahead in ((0, 0), (3, 4), (1000, 0), (0, 1000), (1000, 1000)):
            clock = Clock(behind, ahead)
            self.assertEqual((clock.behind, clock.ahead, clock.span), (behind, ahead, behind + ahead))
        self.assertEqual((Clock().behind, Clock().ahead, Clock().span), (0, 0, 0))
        self.assertEqual(Clock(ahead=2).span, 2)

    def test_bounds(self):
        for behind, ahead, name in ((-1, 0, "behind"), (1001, 0, "behind"), (0, -1, "ahead"), (0, 1001, "ahead"),
                                    (-1, -1, "behind"), (5, -1, "ahead")):
            self.assertEqual(caught(InvalidValue, Clock, behind, ahead).name, name)

    def test_reading(self):
        clock = Clock(2, 3)
        self.assertEqual([clock.reading(10, offset) for offset in range(-2, 4)], [8, 9, 10, 11, 12, 13])
        self.assertEqual(clock.reading(0, -2), -2)
        for offset in (-3, 4, 100):
            self.assertEqual(caught(InvalidValue, clock.reading, 10, offset).name, "offset")
        self.assertEqual(Clock().reading(7, 0), 7)
        for offset in (-1, 1):
            self.assertEqual(caught(InvalidValue, Clock().reading, 7, offset).name, "offset")


class SettingTest(unittest.TestCase):
    def test_attributes(self):
        setting = Setting(MAKES, KIND, clocks=CLOCKS, delays=DELAYS, loses=True)
        self.assertEqual((setting.makes, setting.clocks, setting.delays), (MAKES, CLOCKS, DELAYS))
        self.assertIs(setting.kind, KIND)
        self.assertEqual((setting.loses, setting.hops), (True, 4))

    def test_without_lists(self):
        setting = Setting(MAKES[:2], KIND)
        self.assertEqual([clock.span for clock in setting.clocks], [0, 0, 0])
        self.assertEqual((setting.delays, setting.loses, setting.hops), ([0, 0], False, 2))

    def test_number_of_hops(self):
        for hops in range(1, 7):
            self.assertEqual(Setting([Make()] * hops, KIND).hops, hops)
        for hops in (0, 7):
            self.assertEqual(caught(InvalidValue, Setting, [Make()] * hops, KIND).name, "makes")

    def test_wrong_lists(self):
        for clocks, delays, name in ((CLOCKS[:4], DELAYS, "clocks"), ([], None, "clocks"),
                                     ([*CLOCKS, Clock()], None, "clocks"), (CLOCKS, DELAYS[:3], "delays"),
                                     (None, [], "delays"), (None, [*DELAYS, 1], "delays"),
                                     (None, [0, 0, 0, -1], "delays"), (None, [1001, 0, 0, 0], "delays"),
                                     (CLOCKS[:4], [-1], "clocks")):
            self.assertEqual(caught(InvalidValue, Setting, MAKES, KIND, clocks=clocks, delays=delays).name, name)
        self.assertEqual(caught(InvalidValue, Setting, [], KIND, clocks=[], delays=[-1]).name, "makes")

    def test_calm(self):
        self.assertIs(Setting(MAKES, KIND).calm, True)
        self.assertIs(Setting(MAKES, KIND, clocks=[Clock()] * 5, delays=[0] * 4, loses=False).calm, True)
        for settings in ({"loses": True}, {"delays": [0, 0, 0, 1]}, {"clocks": [Clock()] * 4 + [Clock(1)]},
                         {"clocks": [Clock(0, 1)] + [Clock()] * 4}):
            self.assertIs(Setting(MAKES, KIND, **settings).calm, False)

    def test_part(self):
        setting = Setting(MAKES, KIND, clocks=CLOCKS, delays=DELAYS, loses=True)
        for first in range(1, 5):
            for last in range(first, 5):
                part = setting.part(first, last)
                self.assertEqual(part.makes, MAKES[first - 1:last])
                self.assertEqual(part.clocks, CLOCKS[first - 1:last] + CLOCKS[4:])
                self.assertEqual(part.delays, DELAYS[first - 1:last])
                self.assertIs(part.kind, KIND)
                self.assertEqual((part.loses, part.hops), (True, last - first + 1))
        self.assertIs(Setting(MAKES, KIND).part(2, 3).loses, False)

    def test_wrong_parts(self):
        setting = Setting(MAKES, KIND)
        for first, last, name in ((0, 2, "first"), (5, 5, "first"), (-1, -1, "first"), (0, 0, "first"), (5, 1, "first"),
                                  (1, 0, "last"), (2, 1, "last"), (1, 5, "last"), (4, 5, "last")):
            self.assertEqual(caught(InvalidValue, setting.part, first, last).name, name)

    def test_lists_are_copied(self):
        makes, clocks, delays = list(MAKES), list(CLOCKS), list(DELAYS)
        setting = Setting(makes, KIND, clocks=clocks, delays=delays)
        part = setting.part(1, 4)
        makes.pop()
        clocks[0] = Clock(9)
        delays.append(5)
        self.assertEqual((setting.makes, setting.clocks, setting.delays), (MAKES, CLOCKS, DELAYS))
        setting.delays[0] = 9
        self.assertEqual(part.delays, DELAYS)
