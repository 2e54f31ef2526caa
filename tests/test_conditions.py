"""[20], [21], [22]: the condition fields, their evaluation, and more of them."""

import unittest

from hopkeep.conditions import Conditions, Current, checking, without_own
from hopkeep.errors import InvalidValue
from hopkeep.marks import Mark
from hopkeep.messages import Request
from tests.helpers import caught

V1 = Current(Mark("v1"), 50)
WEAK1 = Current(Mark("v1", True), 50)
V2 = Current(Mark("v2"), 60)
UNKNOWN = Current(Mark("v1"), None)
NAMELESS = Current(None, 50)
BARE = Current(None, None)
ALL = (V1, WEAK1, V2, UNKNOWN, NAMELESS, BARE, None)


def told(method, fields, things=ALL):
    """What the conditions return for each thing, by its first letter."""
    conditions = Conditions.of(Request(method, "/a", fields))
    words = [conditions(thing) for thing in things]
    if not set(words) <= {"go", "same", "failed"}:
        raise AssertionError(words)
    return "".join(word[0] for word in words)


class EvaluationTest(unittest.TestCase):
    def alike(self, fields, wanted, methods=Request.METHODS):
        for method in methods:
            self.assertEqual(told(method, fields), wanted, (method, fields))

    def test_example(self):
        conditions = Conditions.of(Request.fetch("/a", ("if-no-mark", '"v0", "v1"')))
        self.assertEqual([conditions(Current(Mark("v1", True), None)),
                          conditions(Current(Mark("v2"), None)), conditions(None)],
                         ["same", "go", "go"])

    def test_whole_words(self):
        current = Current(Mark("a"), None)
        for fields, word in (([], "go"), ([("if-no-mark", "*")], "same"), ([("if-mark", '"b"')], "failed")):
            self.assertEqual(Conditions.of(Request("get", "/", fields))(current), word)

    def test_no_conditions(self):
        self.alike([], "ggggggg")
        self.alike([("range", "0-1"), ("if-part", '"v9"'), ("keep", "check")], "ggggggg")

    def test_if_mark(self):
        self.alike([("if-mark", '"v1"')], "gffgfff")
        self.alike([("if-mark", 'w"v1"')], "fffffff")
        self.alike([("if-mark", '"v0", "v2"')], "ffgffff")
        self.alike([("if-mark", "*")], "ggggggf")

    def test_unreadable_if_mark_always_fails(self):
        for text in ("", "v1", '"v1", *', '"v1" "v2"'):
            self.alike([("if-mark", text)], "fffffff")
            self.alike([("if-mark", '"v1"'), ("if-mark", text or ";")], "fffffff")

    def test_doubled_if_mark(self):
        self.alike([("if-mark", '"v0"'), ("x", ""), ("if-mark", '"v1"')], "gffgfff")
        self.alike([("if-mark", '"v1"'), ("if-mark", "")], "gffgfff")

    def test_if_mark_sets_if_unchanged_aside(self):
        self.alike([("if-unchanged", "10"), ("if-mark", '"v1"')], "gffgfff")

    def test_if_unchanged(self):
        self.alike([("if-unchanged", "49")], "fffgfgf")
        self.alike([("if-unchanged", "50")], "ggfgggf")
        self.alike([("if-unchanged", "60")], "ggggggf")
        self.alike([("if-unchanged", "-1")], "fffgfgf")

    def test_ignored_if_unchanged(self):
        for text in ("", "x", "-0", "010", "1000000", '"v1"', "1 2"):
            self.alike([("if-unchanged", text)], "ggggggg")
        self.alike([("if-unchanged", "5"), ("if-unchanged", "5")], "ggggggg")

    def test_if_no_mark(self):
        self.alike([("if-no-mark", '"v1"')], "ssgsggg", ["get"])
        self.alike([("if-no-mark", '"v1"')], "ffgfggg", ["put", "delete"])
        self.alike([("if-no-mark", 'w"v2"')], "ggsgggg", ["get"])
        self.alike([("if-no-mark", "*")], "ssssssg", ["get"])
        self.alike([("if-no-mark", "*")], "ffffffg", ["put", "delete"])
        self.alike([("if-no-mark", '"v1"'), ("if-no-mark", '"v2"')], "ssssggg", ["get"])

    def test_unreadable_if_no_mark_never_matches(self):
        for text in ("", "v1", '*, "v1"'):
            self.alike([("if-no-mark", text)], "ggggggg")
            self.alike([("if-no-mark", text), ("if-changed", "99")], "ggggggg")

    def test_if_no_mark_sets_if_changed_aside(self):
        self.alike([("if-changed", "99"), ("if-no-mark", '"v2"')], "ggsgggg", ["get"])

    def test_if_changed(self):
        self.alike([("if-changed", "50")], "ssggsgg", ["get"])
        self.alike([("if-changed", "49")], "ggggggg", ["get"])
        self.alike([("if-changed", "60")], "sssgsgg", ["get"])
        self.alike([("if-changed", "60")], "ggggggg", ["put", "delete"])

    def test_ignored_if_changed(self):
        for text in ("", "x", "-0", "060", "*"):
            self.alike([("if-changed", text)], "ggggggg")
        self.alike([("if-changed", "60"), ("if-changed", "60")], "ggggggg")

    def test_binding_rules_come_first(self):
        fields = [("if-no-mark", '"v1"'), ("if-mark", '"v2"')]
        self.alike(fields, "ffgffff")
        self.alike([("if-no-mark", "*"), ("if-mark", '"v1"')], "sffsfff", ["get"])
        self.alike([("if-no-mark", "*"), ("if-unchanged", "50")], "ssfsssf", ["get"])
        self.alike([("if-changed", "60"), ("if-unchanged", "50")], "ssfgsgf", ["get"])
        self.alike([("if-changed", "60"), ("if-mark", "*")], "sssgsgf", ["get"])


class PropertiesTest(unittest.TestCase):
    def flags(self, *fields):
        conditions = Conditions.of(Request.fetch("/a", *fields))
        return (conditions.none, conditions.binding)

    def test_each_field(self):
        self.assertEqual(self.flags(), (True, False))
        self.assertEqual(self.flags(("if-mark", '"a"')), (False, True))
        self.assertEqual(self.flags(("if-no-mark", '"a"')), (False, False))
        self.assertEqual(self.flags(("if-unchanged", "5")), (False, True))
        self.assertEqual(self.flags(("if-changed", "5")), (False, False))
        self.assertEqual(self.flags(("if-part", '"a"'), ("range", "0-1")), (True, False))

    def test_unreadable_fields(self):
        self.assertEqual(self.flags(("if-mark", "a")), (False, True))
        self.assertEqual(self.flags(("if-no-mark", "")), (False, False))
        self.assertEqual(self.flags(("if-unchanged", "a")), (True, False))
        self.assertEqual(self.flags(("if-changed", "-0")), (True, False))
        self.assertEqual(self.flags(("if-unchanged", "5"), ("if-unchanged", "5")), (True, False))

    def test_other_methods(self):
        conditions = Conditions.of(Request("put", "/a", [("if-changed", "5")]))
        self.assertEqual((conditions.none, conditions.binding), (False, False))


class TakesPartTest(unittest.TestCase):
    def takes(self, *values):
        conditions = Conditions.of(Request.fetch("/a", *[("if-part", value) for value in values]))
        found = [conditions.takes_part(thing) for thing in ALL]
        self.assertTrue(all(one is True or one is False for one in found))
        return "".join("ft"[one] for one in found)

    def test_absent(self):
        self.assertEqual(self.takes(), "ttttttt")

    def test_mark(self):
        self.assertEqual(self.takes('"v1"'), "tfftfff")
        self.assertEqual(self.takes('w"v1"'), "fffffff")

    def test_reading(self):
        self.assertEqual(self.takes("50"), "ttfftff")
        self.assertEqual(self.takes("49"), "fffffff")
        self.assertEqual(self.takes("51"), "fffffff")

    def test_neither(self):
        for value in ("", "*", "v1", "-0", "050", '"v1", "v2"'):
            self.assertEqual(self.takes(value), "fffffff")

    def test_doubled(self):
        self.assertEqual(self.takes('"v1"', '"v1"'), "fffffff")
        self.assertEqual(self.takes("50", "50"), "fffffff")


class OwnTest(unittest.TestCase):
    FIELDS = [("if-no-mark", '"a"'), ("x", "1"), ("if-changed", "1"), ("range", "0-1"), ("if-mark", "*"),
              ("if-part", "5"), ("if-unchanged", "2"), ("range", "5-"), ("keep", "check"), ("x", "2")]
    LEFT = [("x", "1"), ("if-mark", "*"), ("if-unchanged", "2"), ("keep", "check"), ("x", "2")]

    def test_without_own(self):
        request = Request("get", "/a", self.FIELDS)
        self.assertEqual(without_own(request), Request("get", "/a", self.LEFT))
        self.assertEqual(request.fields, self.FIELDS)
        put = Request("put", "/a", self.FIELDS, "b")
        self.assertEqual(without_own(put), Request("put", "/a", self.LEFT, "b"))

    def test_checking(self):
        request = Request("get", "/a", self.FIELDS)
        for mark, changed, more in ((Mark("v"), 5, [("if-no-mark", '"v"')]),
                                    (Mark("v", True), None, [("if-no-mark", 'w"v"')]),
                                    (None, 5, [("if-changed", "5")]), (None, -5, [("if-changed", "-5")]),
                                    (None, 0, [("if-changed", "0")]), (None, None, [])):
            self.assertEqual(checking(request, mark, changed), Request("get", "/a", self.LEFT + more))
        self.assertEqual(request.fields, self.FIELDS)

    def test_forty_fields(self):
        full = Request("get", "/a", [("x", "1")] * 39 + [("if-part", "5")])
        self.assertEqual(len(checking(full, Mark("v"), None).fields), 40)
        more = Request("get", "/a", [("x", "1")] * 40)
        self.assertEqual(caught(InvalidValue, checking, more, Mark("v"), None).name, "fields")
        self.assertEqual(checking(more, None, None), more)
