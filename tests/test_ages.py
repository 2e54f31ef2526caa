"""[40]: told ages and current ages."""

import unittest

from hopkeep.ages import current_age, told_age
from hopkeep.messages import Response


class AgesTest(unittest.TestCase):
    def test_told_age(self):
        self.assertEqual(told_age(Response("ok")), 0)
        for text, age in (("0", 0), ("1", 1), ("999999", 999999), ("1000000", 0), ("", 0), ("05", 0), ("-5", 0),
                          ("5 5", 0), ("5,", 0), ("x", 0), ("5x", 0)):
            self.assertEqual(told_age(Response("ok", [("x", "9"), ("age", text)])), age, text)

    def test_several_fields(self):
        self.assertEqual(told_age(Response("ok", [("age", "5"), ("age", "5")])), 0)
        self.assertEqual(told_age(Response("ok", [("age", "5"), ("age", "")])), 0)

    def test_any_status(self):
        for status in Response.STATUSES:
            self.assertEqual(told_age(Response(status, [("age", "7")])), 7)

    def test_current_age(self):
        for initial, arrived, now, age in ((3, 10, 10, 3), (3, 10, 11, 4), (3, 10, 9, 3), (3, 10, -50, 3),
                                           (0, -5, 5, 10), (7, -5, -6, 7), (0, 0, 1, 1)):
            self.assertEqual(current_age(initial, arrived, now), age)
