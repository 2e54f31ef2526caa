"""[42], [43]: kinds and limits."""

import itertools
import unittest

from hopkeep.directives import Directives
from hopkeep.errors import InvalidValue, NoLifetime
from hopkeep.fields import is_value
from hopkeep.kinds import Kind, serve_limit
from hopkeep.makes import Make, OwnMake, StrictMake
from tests.helpers import caught

DEFAULTS = {"shared_lasts": None, "late": 0, "on_error": 0, "strict": False, "check": False, "own": False,
            "never": False, "mark": "strong", "dated": False, "margin": 0}
BAD = {"lasts": (-1, 1000000), "shared_lasts": (-1, 1000000), "late": (-1, 1000000), "on_error": (-1, 1000000),
       "mark": ("Strong", "", "None", "v1"), "margin": (-1, 1000000)}
GOOD = {"lasts": (None, 0, 999999), "shared_lasts": (None, 0, 999999), "late": (0, 999999), "on_error": (0, 999999),
        "mark": ("strong", "weak", "none"), "margin": (0, 999999)}


def kind_of(**settings):
    return Kind(settings.pop("lasts", 5), **settings)


class KindTest(unittest.TestCase):
    def test_defaults(self):
        kind = Kind(5)
        self.assertEqual({name: getattr(kind, name) for name in DEFAULTS}, DEFAULTS)
        self.assertEqual(kind.lasts, 5)
        self.assertEqual(Kind(lasts=None).lasts, None)

    def test_attributes(self):
        given = {"shared_lasts": 1, "late": 2, "on_error": 3, "strict": True, "check": True, "own": True,
                 "never": True, "mark": "weak", "dated": True, "margin": 4}
        kind = Kind(9, **given)
        self.assertEqual({name: getattr(kind, name) for name in given}, given)

    def test_bounds(self):
        for name, values in GOOD.items():
            for value in values:
                self.assertEqual(getattr(kind_of(**{name: value}), name), value)
        for name, values in BAD.items():
            for value in values:
                self.assertEqual(caught(InvalidValue, kind_of, **{name: value}).name, name)

    def test_first_bad_one(self):
        for first, second in itertools.combinations(BAD, 2):
            self.assertEqual(caught(InvalidValue, kind_of, **{second: BAD[second][0], first: BAD[first][0]}).name,
                             first)


class KeepFieldTest(unittest.TestCase):
    def test_each_directive(self):
        for settings, text in (({"lasts": 0}, "lasts=0"), ({"lasts": 7}, "lasts=7"),
                               ({"shared_lasts": 0}, "shared-lasts=0"), ({"shared_lasts": 7}, "shared-lasts=7"),
                               ({"late": 0}, ""), ({"late": 7}, "late=7"), ({"on_error": 0}, ""),
                               ({"on_error": 7}, "on-error=7"), ({"strict": True}, "strict"),
                               ({"check": True}, "check"), ({"own": True}, "own"), ({"never": True}, "never"),
                               ({}, ""), ({"mark": "weak", "dated": True, "margin": 3}, "")):
            self.assertEqual(kind_of(**{"lasts": None, **settings}).keep_field(), text)

    def test_all_of_them(self):
        kind = Kind(999999, shared_lasts=999999, late=999999, on_error=999999, strict=True, check=True, own=True,
                    never=True)
        text = ("lasts=999999, shared-lasts=999999, late=999999, on-error=999999, strict, check, own, never")
        self.assertEqual(kind.keep_field(), text)
        self.assertTrue(is_value(text))
        told = Directives.read(text)
        self.assertEqual((told.lasts, told.shared_lasts, told.late, told.on_error), (999999,) * 4)


class LimitTest(unittest.TestCase):
    def test_example(self):
        kind = Kind(5, on_error=4, own=True)
        self.assertEqual([kind.keep_field(), serve_limit(Make(grace=2), kind),
                          serve_limit(Make(shared=False, grace=2), kind, on_error=True)],
                         ["lasts=5, on-error=4, own", 0, 9])

    def test_limits(self):
        for make, kind, limit, error in (
                (Make(), Kind(5), 5, 5), (Make(grace=2), Kind(5), 7, 7), (Make(error_grace=3), Kind(5), 5, 8),
                (Make(grace=None), Kind(5), None, None), (Make(), Kind(5, late=4), 9, 9),
                (Make(grace=6, error_grace=1), Kind(5, late=4, on_error=2), 11, 11),
                (Make(), Kind(5, on_error=2), 5, 7), (Make(), Kind(0), 0, 0), (Make(grace=1), Kind(0), 1, 1),
                (Make(grace=None), Kind(5, strict=True), 5, 5), (Make(grace=3), Kind(5, strict=True, on_error=9), 5, 5),
                (Make(grace=None), Kind(5, check=True), 0, 0), (Make(grace=None), Kind(5, never=True), 0, 0),
                (Make(grace=None), Kind(5, own=True), 0, 0), (OwnMake(grace=1), Kind(5, own=True), 6, 6),
                (StrictMake(grace=None, error_grace=9), Kind(5, late=3, on_error=4), 5, 5),
                (StrictMake(), Kind(5, own=True), 0, 0), (Make(), Kind(5, shared_lasts=2), 2, 2),
                (OwnMake(), Kind(5, shared_lasts=2), 5, 5), (Make(), Kind(None, shared_lasts=2), 2, 2),
                (Make(shared=False, grace=1), Kind(5, shared_lasts=2), 6, 6)):
            self.assertEqual((serve_limit(make, kind), serve_limit(make, kind, on_error=True)), (limit, error))

    def test_no_lifetime(self):
        for make, kind in ((Make(), Kind(None)), (OwnMake(), Kind(None)), (OwnMake(), Kind(None, shared_lasts=4)),
                           (Make(shared=False), Kind(None, shared_lasts=4)), (Make(), Kind(None, never=True)),
                           (Make(), Kind(None, own=True)), (Make(), Kind(None, check=True)),
                           (Make(share=100, cap=9), Kind(None, dated=True)), (Make(grace=None), Kind(None))):
            for on_error in (False, True):
                self.assertIsNotNone(caught(NoLifetime, serve_limit, make, kind, on_error=on_error))

    def test_limit_is_where_the_use_ends(self):
        wish = Directives.read(None)
        flags = (False, True)
        for grace, extra, lasts, late, on_error, strict, check in itertools.product(
                (0, 2, None), (0, 3), (0, 4), (0, 1), (0, 4), flags, flags):
            kind = Kind(lasts, late=late, on_error=on_error, strict=strict, check=check)
            told = Directives.read(kind.keep_field())
            for make in (Make(grace=grace, error_grace=extra), StrictMake(grace=grace, error_grace=extra)):
                lifetime = make.lifetime(told, None, None)
                limit, error = (serve_limit(make, kind, on_error=on) for on in flags)
                for age in range(15):
                    self.assertEqual(make.use(wish, told, age, lifetime) != "check", limit is None or age < limit)
                    self.assertEqual(make.error_use(wish, told, age, lifetime), error is None or age < error)
