"""[34], [35]: directives."""

import unittest

from hopkeep.directives import Directives
from hopkeep.messages import Request, Response

NUMBERS = {"lasts": "lasts", "shared-lasts": "shared_lasts", "late": "late", "on-error": "on_error", "age": "age",
           "fresh": "fresh"}
FLAGS = ("strict", "check", "own", "never", "kept")
ABSENT = {**{name: None for name in NUMBERS.values()}, **{name: False for name in FLAGS}, "any_late": False}


def told(text):
    """The attributes that are not as without directives."""
    one = Directives.read(text)
    found = {name: getattr(one, name) for name in ABSENT}
    return {name: value for name, value in found.items() if value is not ABSENT[name]}


class DirectivesTest(unittest.TestCase):
    def test_example(self):
        one = Directives.read("lasts=9, lasts=4, strict, late")
        self.assertEqual([one.lasts, one.strict, one.late, one.any_late], [4, True, None, True])

    def test_none(self):
        for text in (None, "", " ", ",,"):
            self.assertEqual(told(text), {})

    def test_each_one(self):
        for name, attribute in NUMBERS.items():
            for number in ("0", "7", "999999"):
                self.assertEqual(told(f"{name}={number}"), {attribute: int(number)})
        for name in FLAGS:
            self.assertEqual(told(name), {name: True})
        self.assertEqual(told("late"), {"any_late": True})

    def test_all_together(self):
        text = ", ".join([f"{name}={at}" for at, name in enumerate(NUMBERS)] + list(FLAGS))
        wanted = {attribute: at for at, attribute in enumerate(NUMBERS.values())}
        self.assertEqual(told(text), {**wanted, **{name: True for name in FLAGS}})

    def test_least_number_counts(self):
        for name, attribute in NUMBERS.items():
            for text in (f"{name}=5, {name}=3", f"{name}=3, {name}=5", f"{name}=9,{name}=3 , {name}=9"):
                self.assertEqual(told(text), {attribute: 3})
            self.assertEqual(told(f"{name}=10, {name}=9"), {attribute: 9})
        for name in FLAGS:
            self.assertEqual(told(f"{name}, {name}"), {name: True})

    def test_lifetimes_with_bad_numbers(self):
        for name, attribute in (("lasts", "lasts"), ("shared-lasts", "shared_lasts")):
            for rest in ("", "=", "=x", "=05", "=-1", "=1000000", "= 5", "=5 5", "=5=5", "==5", '="5"'):
                self.assertEqual(told(name + rest), {attribute: 0}, name + rest)
                self.assertEqual(told(f"{name}=7, {name}{rest}"), {attribute: 0})
                self.assertEqual(told(f"{name}{rest}, {name}=7"), {attribute: 0})
            for other in (f"{name} =5", f"{name}5", f"{name}s=5", f"{name};5", f"x{name}=5", f"x-{name}=5",
                          f"{name} 5", name.upper()):
                self.assertEqual(told(other), {}, other)
                self.assertEqual(told(f"{other}, {name}=7"), {attribute: 7})

    def test_other_numbers_that_are_bad(self):
        for name in ("late", "on-error", "age", "fresh"):
            for rest in ("=", "=x", "=05", "=-1", "=1000000", "= 5", " =5", "=5 5", "=5=5", "5", " 5"):
                self.assertEqual(told(name + rest), {}, name + rest)
                self.assertEqual(told(f"{name}{rest}, {name}=7"), {NUMBERS[name]: 7})
        for name in ("on-error", "age", "fresh"):
            self.assertEqual(told(name), {})

    def test_ignored(self):
        for text in ("strict=5", "check=1", "own=0", "never=", "kept=1", "Strict", "stricts", "any_late", "any-late",
                     "shared_lasts=4", "on_error=4", "strict check", "x", "=5", "*", "strict;5"):
            self.assertEqual(told(text), {}, text)
            self.assertEqual(told(f"{text}, own"), {"own": True})

    def test_late(self):
        for text in ("late, late=5", "late=5, late"):
            self.assertEqual(told(text), {"late": 5})
        self.assertEqual(told("late=0, late"), {"late": 0})
        for text in ("late, late=abc", "late=abc, late", "late, late=", "late, late= 5", "late =5, late"):
            self.assertEqual(told(text), {"any_late": True}, text)

    def test_of(self):
        for message in (Request.fetch("/a", ("keep", "age=4"), ("x", ""), ("keep", "lasts, late")),
                        Response("ok", [("keep", "age=4"), ("keep", "lasts, late")])):
            one = Directives.of(message)
            self.assertEqual((one.age, one.lasts, one.any_late), (4, 0, True))
        self.assertIsNone(Directives.of(Response("ok")).lasts)
        self.assertIsInstance(Directives.of(Response("ok")), Directives)
        doubled = Directives.of(Response("ok", [("keep", "lasts=9"), ("keep", ""), ("keep", "lasts=4")]))
        self.assertEqual(doubled.lasts, 4)

    def test_kinds_of_values(self):
        one = Directives.read("check, lasts=3")
        self.assertIs(one.check, True)
        self.assertIs(one.own, False)
        self.assertIs(one.any_late, False)
        self.assertIs(Directives.read("late").any_late, True)
