"""[36] to [41]: makes, lifetimes, allowances, initial ages and use."""

import itertools
import unittest

from hopkeep.directives import Directives
from hopkeep.errors import InvalidValue
from hopkeep.makes import Make, OwnMake, StrictMake
from tests.helpers import caught

DEFAULTS = {"shared": True, "grace": 0, "error_grace": 0, "tells": True, "dates": False, "checks": True, "share": 0,
            "cap": 0, "durable": False, "room": 8}
OTHERS = {"shared": False, "grace": 3, "error_grace": 4, "tells": False, "dates": True, "checks": False, "share": 50,
          "cap": 7, "durable": True, "room": 9}
BAD = {"grace": (-1, -9), "error_grace": (-1,), "share": (-1, 101), "cap": (-1,), "room": (0, -1, 101)}
GOOD = {"grace": (None, 0, 5, 10 ** 9), "error_grace": (0, 5, 10 ** 9), "share": (0, 1, 100), "cap": (0, 10 ** 9),
        "room": (1, 100)}
NO_WISH = Directives.read(None)


def settings(make):
    return {name: getattr(make, name) for name in DEFAULTS}


def own_defaults(kind):
    return {**DEFAULTS, "shared": kind is not OwnMake}


def d(text):
    return Directives.read(text)


class MakeTest(unittest.TestCase):
    def test_defaults(self):
        for kind in (Make, StrictMake, OwnMake):
            self.assertEqual(settings(kind()), own_defaults(kind))

    def test_attributes(self):
        for kind in (Make, StrictMake, OwnMake):
            self.assertEqual(settings(kind(**OTHERS)), OTHERS)
            self.assertEqual(settings(kind(shared=False)), {**DEFAULTS, "shared": False})

    def test_bounds(self):
        for kind in (Make, StrictMake, OwnMake):
            for name, numbers in GOOD.items():
                for number in numbers:
                    self.assertEqual(getattr(kind(**{name: number}), name), number)
            for name, numbers in BAD.items():
                for number in numbers:
                    self.assertEqual(caught(InvalidValue, kind, **{name: number}).name, name)

    def test_first_bad_one(self):
        for kind in (Make, StrictMake, OwnMake):
            for first, second in itertools.combinations(BAD, 2):
                error = caught(InvalidValue, kind, **{second: BAD[second][0], first: BAD[first][0]})
                self.assertEqual(error.name, first)

    def test_own_make_is_not_shared(self):
        self.assertEqual(caught(InvalidValue, OwnMake, shared=True).name, "shared")
        self.assertEqual(caught(InvalidValue, OwnMake, room=0, shared=True).name, "shared")
        self.assertIs(OwnMake(shared=False).shared, False)

    def test_only_by_name(self):
        for kind in (Make, StrictMake, OwnMake):
            self.assertRaises(TypeError, kind, True)


class ButTest(unittest.TestCase):
    def test_replaces_settings(self):
        for kind in (Make, StrictMake, OwnMake):
            for name, value in OTHERS.items():
                make = kind()
                other = make.but(**{name: value})
                self.assertIs(type(other), kind)
                self.assertEqual(settings(other), {**own_defaults(kind), name: value})
                self.assertEqual(settings(make), own_defaults(kind))
            self.assertEqual(settings(kind(**OTHERS).but()), OTHERS)
            self.assertEqual(settings(kind(**OTHERS).but(grace=None, room=1)), {**OTHERS, "grace": None, "room": 1})

    def test_names_that_are_no_parameters(self):
        for kind in (Make, StrictMake, OwnMake):
            make = kind()
            for name in ("colour", "Grace", "lifetime", "make", "settings", "other", "names"):
                self.assertEqual(caught(InvalidValue, make.but, **{name: 1}).name, name)
            self.assertEqual(caught(InvalidValue, make.but, grace=-1, zed=1, ace=2, room=0).name, "zed")
            self.assertEqual(caught(InvalidValue, make.but, ace=2, zed=1).name, "ace")

    def test_bad_numbers(self):
        for kind in (Make, StrictMake, OwnMake):
            for name, numbers in BAD.items():
                for number in numbers:
                    self.assertEqual(caught(InvalidValue, kind().but, **{name: number}).name, name)
            self.assertEqual(caught(InvalidValue, kind().but, room=0, cap=-1).name, "cap")
        self.assertEqual(caught(InvalidValue, OwnMake().but, room=0, shared=True).name, "shared")

    def test_keyword_self(self):
        for kind in (Make, StrictMake, OwnMake):
            self.assertRaises(TypeError, lambda: kind().but(**{"self": 1}))
            self.assertRaises(TypeError, lambda: kind().but(**{"colour": 1, "self": 1}))


class EqualTest(unittest.TestCase):
    def test_classes(self):
        makes = [Make(shared=False), StrictMake(shared=False), OwnMake(shared=False)]
        for first, second in itertools.product(range(3), repeat=2):
            self.assertIs(makes[first] == makes[second], first == second)
        for kind in (Make, StrictMake, OwnMake):
            self.assertTrue(kind(**OTHERS) == kind(**OTHERS))
            self.assertFalse(kind() == 5)
            self.assertFalse(kind() == "Make")
            self.assertTrue(kind() != None)  # noqa: E711

    def test_each_setting(self):
        for kind in (Make, StrictMake, OwnMake):
            for name, value in OTHERS.items():
                same = kind is OwnMake and name == "shared"
                self.assertIs(kind() == kind(**{name: value}), same, name)
        self.assertFalse(Make(grace=None) == Make(grace=0))


class LifetimeTest(unittest.TestCase):
    def test_told_lifetimes(self):
        own, both = Make(shared=False, share=50, cap=99), Make(share=50, cap=99)
        for text, shared, alone in (("lasts=5", 5, 5), ("shared-lasts=3", 3, 50), ("lasts=5, shared-lasts=3", 3, 5),
                                    ("lasts=3, shared-lasts=5", 5, 3), ("lasts=0", 0, 0), ("shared-lasts=0", 0, 50),
                                    ("lasts=5, shared-lasts=0", 0, 5), ("lasts", 0, 0), ("", 50, 50)):
            for make, wanted in ((both, shared), (own, alone), (OwnMake(share=50, cap=99), alone),
                                 (StrictMake(share=50, cap=99), shared)):
                self.assertEqual(make.lifetime(d(text), 100, 0), wanted, text)

    def test_share_of_the_time(self):
        for share, cap, date, changed, wanted in (
                (50, 99, 100, 90, 5), (50, 99, 100, 89, 5), (50, 99, 100, 88, 6), (1, 99, 199, 100, 0),
                (1, 99, 200, 100, 1), (100, 99, 100, 50, 50), (100, 50, 100, 50, 50), (100, 49, 100, 50, 49),
                (100, 51, 100, 50, 50), (100, 0, 100, 50, 0), (0, 99, 100, 50, 0), (100, 99, 50, 50, 0),
                (50, 99, 49, 50, 0), (50, 99, -100, 50, 0), (50, 99, -10, -30, 10), (99, 999, 199, 100, 98)):
            make = Make(share=share, cap=cap)
            self.assertEqual(make.lifetime(NO_WISH, date, changed), wanted)

    def test_unknown_readings(self):
        make = Make(share=100, cap=99)
        for date, changed in ((None, 0), (100, None), (None, None)):
            self.assertEqual(make.lifetime(NO_WISH, date, changed), 0)
            self.assertEqual(make.lifetime(d("lasts=4"), date, changed), 4)
        self.assertEqual(make.lifetime(NO_WISH, 7, 0), 7)


class KeepsTest(unittest.TestCase):
    def test_keeps(self):
        for wish, text, shared, alone in (("", "", True, True), ("never", "", False, False),
                                          ("", "never", False, False), ("never", "never", False, False),
                                          ("", "own", False, True), ("own", "", True, True),
                                          ("", "own, never", False, False),
                                          ("check", "strict, check, lasts=0", True, True)):
            for make in (Make(), StrictMake()):
                self.assertIs(make.keeps(d(wish), d(text)), shared)
            for make in (OwnMake(), Make(shared=False)):
                self.assertIs(make.keeps(d(wish), d(text)), alone)


class AllowanceTest(unittest.TestCase):
    def test_allowance(self):
        for grace, wish, text, wanted in (
                (0, "", "", 0), (4, "", "", 4), (4, "late=3", "", 4), (4, "late=5", "", 5), (4, "", "late=5", 5),
                (4, "late=6", "late=5", 6), (4, "late=5", "late=6", 6), (0, "late=0", "late=0", 0),
                (None, "", "", None), (None, "late=2", "late=1", None), (3, "late", "", None), (3, "", "late", 3),
                (3, "late, late=5", "", 5), (3, "late=0, late", "", 3), (0, "", "on-error=9", 0),
                (4, "late=9", "late=9, strict", 0), (None, "late", "strict", 0), (4, "strict", "", 4)):
            self.assertEqual(Make(grace=grace, error_grace=20).allowance(d(wish), d(text)), wanted, (wish, text))

    def test_error_allowance(self):
        for grace, extra, wish, text, wanted in (
                (0, 0, "", "", 0), (4, 0, "", "", 4), (4, 3, "", "", 4), (4, 5, "", "", 5), (0, 5, "late=7", "", 7),
                (0, 5, "late=4", "", 5), (0, 5, "", "late=7", 7), (0, 5, "", "on-error=6", 6),
                (0, 5, "", "on-error=4", 5), (7, 5, "", "on-error=6", 7), (0, 5, "on-error=9", "", 5),
                (None, 5, "", "on-error=9", None), (0, 5, "late", "", None), (0, 5, "", "late", 5),
                (4, 5, "late=9", "on-error=9, strict", 0), (None, 5, "late", "strict", 0), (0, 5, "strict", "", 5)):
            make = Make(grace=grace, error_grace=extra)
            self.assertEqual(make.error_allowance(d(wish), d(text)), wanted, (wish, text))

    def test_strict_make(self):
        make = StrictMake(grace=None, error_grace=9)
        self.assertEqual((make.grace, make.error_grace), (None, 9))
        for wish, text in (("", ""), ("late", ""), ("late=5", "late=5, on-error=5"), ("", "strict")):
            self.assertEqual(make.allowance(d(wish), d(text)), 0)
            self.assertEqual(make.error_allowance(d(wish), d(text)), 0)

    def test_own_make_is_as_lenient(self):
        make = OwnMake(grace=3, error_grace=5)
        self.assertEqual((make.allowance(NO_WISH, NO_WISH), make.error_allowance(NO_WISH, NO_WISH)), (3, 5))


class InitialAgeTest(unittest.TestCase):
    def test_initial_age(self):
        for told, date, arrived, plain, dated in ((5, 10, 14, 5, 5), (5, 10, 15, 5, 5), (5, 10, 16, 5, 6),
                                                  (5, 10, 2, 5, 5), (0, 10, 9, 0, 0), (0, 10, 10, 0, 0),
                                                  (0, -5, 5, 0, 10), (5, None, 100, 5, 5)):
            self.assertEqual(Make().initial_age(told, date, arrived), plain)
            self.assertEqual(Make(dates=True).initial_age(told, date, arrived), dated)


class UseTest(unittest.TestCase):
    def uses(self, make, wish, text, lifetime, ages):
        """The first letters of the uses at these ages, and E or - for the use after an error."""
        told = (d(wish), d(text))
        words = [make.use(*told, age, lifetime) for age in ages]
        self.assertLessEqual(set(words), {"fresh", "late", "check"})
        errors = [make.error_use(*told, age, lifetime) for age in ages]
        self.assertLessEqual(set(map(type, errors)), {bool})
        return "".join(word[0] for word in words) + " " + "".join("E" if one else "-" for one in errors)

    def test_example(self):
        wish, told = d(None), d("lasts=5")
        self.assertEqual([Make(grace=2).use(wish, told, 6, 5), Make(grace=2).use(wish, told, 7, 5),
                          StrictMake(grace=2).use(wish, told, 6, 5)], ["late", "check", "check"])

    def test_fresh_and_late(self):
        for make, wish, text, wanted in (
                (Make(), "", "", "ffccccc EE-----"), (Make(grace=1), "", "", "fflcccc EEE----"),
                (Make(grace=2), "", "", "ffllccc EEEE---"), (Make(grace=None), "", "", "fflllll EEEEEEE"),
                (Make(error_grace=2), "", "", "ffccccc EEEE---"),
                                         (Make(grace=1, error_grace=3), "", "", "fflcccc EEEEE--"),
                (Make(grace=3, error_grace=1), "", "", "fflllcc EEEEE--"), (Make(), "late=1", "", "fflcccc EEE----"),
                (Make(), "late", "", "fflllll EEEEEEE"), (Make(), "", "late=2", "ffllccc EEEE---"),
                (Make(), "", "late", "ffccccc EE-----"), (Make(), "", "on-error=3", "ffccccc EEEEE--"),
                (Make(), "on-error=3", "", "ffccccc EE-----"), (Make(grace=None), "late", "strict", "ffccccc EE-----"),
                (Make(error_grace=9), "", "on-error=9, strict", "ffccccc EE-----"),
                (StrictMake(grace=None, error_grace=9), "late", "on-error=9", "ffccccc EE-----")):
            self.assertEqual(self.uses(make, wish, text, 2, range(7)), wanted, (wish, text))

    def test_check(self):
        for wish, text in (("check", ""), ("", "check"), ("check", "check"), ("check, age=9, late", "lasts=9"),
                           ("fresh=0, check", "")):
            for make in (Make(grace=None, error_grace=9), StrictMake()):
                self.assertEqual(self.uses(make, wish, text, 5, (0, 4, 5)), "ccc ---")

    def test_age(self):
        self.assertEqual(self.uses(Make(), "age=2", "", 9, range(5)), "fffcc EEE--")
        self.assertEqual(self.uses(Make(), "age=0", "", 9, range(3)), "fcc E--")
        self.assertEqual(self.uses(Make(), "", "age=1", 9, range(4)), "ffff EEEE")
        self.assertEqual(self.uses(Make(grace=9), "age=5", "", 3, range(8)), "ffflllcc EEEEEE--")
        self.assertEqual(self.uses(Make(grace=None), "age=5, late", "", 3, range(8)), "ffflllcc EEEEEE--")

    def test_fresh_wish(self):
        self.assertEqual(self.uses(Make(grace=None, error_grace=9), "fresh=2", "", 5, range(7)), "fffcccc -------")
        self.assertEqual(self.uses(Make(grace=9), "fresh=0", "", 3, range(5)), "fffcc -----")
        self.assertEqual(self.uses(Make(), "fresh=2, age=1", "", 5, range(4)), "ffcc ----")
        self.assertEqual(self.uses(Make(), "", "fresh=9", 5, range(6)), "fffffc EEEEE-")
        self.assertEqual(self.uses(Make(), "fresh=5", "", 5, (0,)), "c -")

    def test_lifetime_of_zero(self):
        self.assertEqual(self.uses(Make(), "", "", 0, range(3)), "ccc ---")
        self.assertEqual(self.uses(Make(grace=1), "", "", 0, range(3)), "lcc E--")
