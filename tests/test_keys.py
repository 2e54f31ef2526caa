"""[33]: keys."""

import random
import unittest

from hopkeep.keys import key_of, varied_names
from hopkeep.messages import Request, Response
from hopkeep.variants import Variant, choose

WANTS = ("want-coding", "want-form", "want-tongue")


def names_of(*values):
    return varied_names(Response("ok", [("varies", value) for value in values]))


class NamesTest(unittest.TestCase):
    def test_names(self):
        self.assertEqual(varied_names(Response("ok")), [])
        for values, names in ((["b, a"], ["a", "b"]), (["a", "c", "b"], ["a", "b", "c"]), ([""], []), (["", ","], []),
                              (["a,, a ,b"], ["a", "b"]), (["b", "a, b"], ["a", "b"]), (["a-1"], ["a-1"]),
                              (["z, a10, a-9, a9, aa"], ["a-9", "a10", "a9", "aa", "z"]), (["a" * 30], ["a" * 30])):
            self.assertEqual(names_of(*values), names, values)

    def test_unknown_names(self):
        for value in ("*", "a, *", "*, a", "length", "a, length", "A", "want-Form", "1a", "-a", "a b", '"a"', "a;b",
                      "a" * 31, "a.b"):
            self.assertIsNone(names_of(value), value)
            self.assertIsNone(names_of("x", value), value)

    def test_new_list_each_time(self):
        response = Response("ok", [("varies", "a")])
        varied_names(response).append("b")
        self.assertEqual(varied_names(response), ["a"])


class KeyTest(unittest.TestCase):
    def key(self, names, *fields, method="get"):
        return key_of(names, Request(method, "/a", fields))

    def test_example(self):
        key = self.key(["colour", "want-form"], ("want-form", "b;5, a"), ("colour", "x , y"))
        self.assertEqual(key, (("colour", "x,y"), ("want-form", (("a", 1000), ("b", 5)))))

    def test_no_names(self):
        self.assertEqual(self.key([], ("a", "1")), ())

    def test_want_fields(self):
        for name in WANTS:
            for values, pairs in (([], ()), ([""], ()), (["!"], ()), (["A, b;1001"], ()),
                                  (["b;5, a"], (("a", 1000), ("b", 5))), (["a", "b;5"], (("a", 1000), ("b", 5))),
                                  (["a;1000 ,, b;5 ,a;7"], (("a", 1000), ("b", 5))),
                                  (["B;1", "b;5, $;3", "a"], (("a", 1000), ("b", 5))),
                                  (["a, *;0"], (("*", 0), ("a", 1000))), (["b", "a"], (("a", 1000), ("b", 1000)))):
                self.assertEqual(self.key([name], *[(name, value) for value in values]), ((name, pairs),))

    def test_other_fields(self):
        for values, text in (([], None), ([""], ""), ([",  ,"], ""), (["", ""], ""), (["a  b"], "a  b"),
                             (["a ,b,  c"], "a,b,c"), (["a", "b"], "a,b"), (["b, a, b"], "b,a,b"), (["A;5"], "A;5")):
            self.assertEqual(self.key(["x"], *[("x", value) for value in values]), (("x", text),), values)
        self.assertEqual(self.key(["want"], ("want", "b, a")), (("want", "b,a"),))

    def test_order_of_the_names(self):
        self.assertEqual(self.key(["a", "b", "want-form"], ("b", "1"), ("want-form", "x"), ("a", "2")),
                         (("a", "2"), ("b", "1"), ("want-form", (("x", 1000),))))

    def test_other_methods(self):
        self.assertEqual(self.key(["a"], ("a", "2"), method="put"), (("a", "2"),))

    def test_keys_can_be_keys_of_a_dict(self):
        self.assertEqual({self.key(["want-form"], ("want-form", "a")): 1}[(("want-form", (("a", 1000),)),)], 1)

    def test_equal_keys_choose_alike(self):
        rng = random.Random(33)
        pieces = ("a", "a;0", "a-b;3", "b;2", "*", "*;1", "!", "b;02", " ")
        found = {}
        variants = [[Variant(*rng.choices(("a", "a-b", "b", "c"), k=3), "", weight=rng.choice((1, 1, 3)))
                     for _ in range(4)] for _ in range(12)]
        for _ in range(3000):
            fields = [(rng.choice(WANTS), ", ".join(rng.choices(pieces, k=rng.randrange(3))).strip(" "))
                      for _ in range(rng.randrange(4))]
            request = Request.fetch("/a", *fields)
            choices = [choose(each, request) for each in variants]
            self.assertEqual(found.setdefault(key_of(WANTS, request), choices), choices, fields)
        self.assertLess(len(found), 2500)
