"""[3], [4], [7], [8]: requests and responses."""

import unittest

from hopkeep.errors import InvalidValue
from hopkeep.messages import Message, Request, Response
from tests.helpers import caught

STATUSES = ("ok", "part", "same", "done", "missing", "failed", "norange", "unkept", "error")


def refused(kind, *args, **settings):
    """The name of the parameter that a constructor refuses."""
    error = caught(InvalidValue, kind, *args, **settings)
    return None if error is None else error.name


class ClassTest(unittest.TestCase):
    def test_class_values(self):
        self.assertEqual((Message.MOST_FIELDS, Message.MOST_BODY), (40, 100000))
        self.assertEqual(Request.METHODS, ("get", "put", "delete"))
        self.assertEqual(Response.STATUSES, STATUSES)
        self.assertTrue(issubclass(Request, Message) and issubclass(Response, Message))

    def test_listed_methods_stand_in_message(self):
        for name in ("value", "all_values", "joined", "with_field", "without", "may_have_body",
                     "start", "__str__", "__eq__"):
            self.assertIn(name, vars(Message))
        self.assertIn("fetch", vars(Request))


class RequestTest(unittest.TestCase):
    def test_each_method(self):
        for method in Request.METHODS:
            one = Request(method, "/a", [("x", "1")])
            self.assertEqual((one.method, one.path, one.fields, one.body),
                             (method, "/a", [("x", "1")], ""))
            self.assertEqual(one.start, "ask " + method + " /a")
            self.assertEqual(str(one), one.start)
            self.assertIs(one.may_have_body, method == "put")

    def test_by_name(self):
        one = Request(method="put", path="/a", fields=(("x", "1"),), body="b")
        self.assertEqual(one, Request("put", "/a", [("x", "1")], "b"))

    def test_body_only_for_put(self):
        self.assertEqual(Request("put", "/", (), "text\n").body, "text\n")
        for method in ("get", "delete"):
            self.assertEqual(refused(Request, method, "/", (), "x"), "body")
            self.assertIsNone(refused(Request, method, "/", (), ""))

    def test_unknown_methods(self):
        for method in ("", "GET", "post", "get ", " get", "ask"):
            self.assertEqual(refused(Request, method, "/"), "method")

    def test_paths(self):
        self.assertIsNone(refused(Request, "get", "/" + "a" * 59))
        for path in ("", "a", "/A", "/" + "a" * 60, "/a b", "/%"):
            self.assertEqual(refused(Request, "get", path), "path")

    def test_first_invalid_parameter(self):
        bad = [("length", "1")]
        self.assertEqual(refused(Request, "x", "x", bad, "%"), "method")
        self.assertEqual(refused(Request, "get", "x", bad, "%"), "path")
        self.assertEqual(refused(Request, "get", "/", bad, "%"), "fields")
        self.assertEqual(refused(Request, "get", "/", [], "%"), "body")

    def test_fetch(self):
        one = Request.fetch("/a", ("x", "1"), ("y", ""))
        self.assertEqual(one, Request("get", "/a", [("x", "1"), ("y", "")]))
        self.assertEqual(Request.fetch("/a"), Request("get", "/a"))
        self.assertEqual(refused(Request.fetch, "a"), "path")
        self.assertEqual(refused(Request.fetch, "/a", ("x", " ")), "fields")


class ResponseTest(unittest.TestCase):
    def test_each_status(self):
        for status in STATUSES:
            one = Response(status)
            self.assertEqual((one.status, one.fields, one.body), (status, [], ""))
            self.assertEqual((one.start, str(one)), ("answer " + status, "answer " + status))
            self.assertIs(one.may_have_body, status not in ("same", "done"))
            wanted = "body" if status in ("same", "done") else None
            self.assertEqual(refused(Response, status, (), "x"), wanted)

    def test_unknown_statuses(self):
        for status in ("", "OK", "lost", "ok ", "get"):
            self.assertEqual(refused(Response, status), "status")

    def test_first_invalid_parameter(self):
        self.assertEqual(refused(Response, "x", [("A", "")], "%"), "status")
        self.assertEqual(refused(Response, "ok", [("A", "")], "%"), "fields")
        self.assertEqual(refused(Response, "ok", [], "%"), "body")

    def test_by_name(self):
        self.assertEqual(Response(status="ok", fields=[("x", "")], body="b").body, "b")


class PartsTest(unittest.TestCase):
    def test_forty_fields(self):
        fields = [("x", str(k)) for k in range(40)]
        self.assertEqual(Response("ok", fields).fields, fields)
        self.assertEqual(Request("get", "/", tuple(fields)).fields, fields)
        self.assertEqual(refused(Response, "ok", fields + [("x", "40")]), "fields")
        self.assertEqual(refused(Request, "get", "/", tuple(fields + [("x", "40")])), "fields")

    def test_names_and_values(self):
        good = [("a", ""), ("a", "b c"), ("n" * 30, "v" * 200)]
        self.assertEqual(Response("ok", good).fields, good)
        for name in ("", "length", "A", "a b", "n" * 31, "a%"):
            self.assertEqual(refused(Response, "ok", [("a", "1"), (name, "1")]), "fields")
        for value in (" ", " a", "a ", "v" * 201, "a\nb", "%", "\t"):
            self.assertEqual(refused(Response, "ok", [("a", value)]), "fields")

    def test_bodies(self):
        for body in ("\n", " a\n b \n", "x" * 100000, "\n" * 100000):
            self.assertEqual(Response("ok", [], body).body, body)
            self.assertEqual(Request("put", "/", [], body).body, body)
        for body in ("x" * 100001, "a%", "\t", "\r\n", "\u00e9"):
            self.assertEqual(refused(Response, "ok", [], body), "body")
            self.assertEqual(refused(Request, "put", "/", [], body), "body")


class FieldsTest(unittest.TestCase):
    def setUp(self):
        self.one = Response("ok", [("x", "1"), ("y", ""), ("x", "2")], "b")

    def test_values(self):
        one = self.one
        self.assertEqual([one.value("x"), one.value("y"), one.value("z")], ["1", "", None])
        self.assertEqual([one.all_values("x"), one.all_values("z")], [["1", "2"], []])
        self.assertEqual([one.joined("x"), one.joined("y"), one.joined("z")], ["1, 2", "", None])

    def test_with_field(self):
        made = self.one.with_field("x", "3")
        self.assertEqual(made, Response("ok", [("y", ""), ("x", "3")], "b"))
        self.assertEqual(self.one.with_field("z", "").fields, self.one.fields + [("z", "")])
        self.assertEqual(self.one.with_field(name="y", value="4").fields[-1], ("y", "4"))
        self.assertEqual(self.one.fields, [("x", "1"), ("y", ""), ("x", "2")])
        put = Request("put", "/a", [("x", "1")], "b")
        self.assertEqual(put.with_field("x", "2"), Request("put", "/a", [("x", "2")], "b"))
        self.assertIsInstance(put.with_field("x", "2"), Request)

    def test_with_field_refuses(self):
        full = Response("ok", [("x", "1")] * 2 + [("y", "1")] * 38)
        self.assertEqual(refused(full.with_field, "z", ""), "fields")
        self.assertEqual(len(full.with_field("x", "").fields), 39)
        for name, value in (("length", "1"), ("A", "1"), ("a", " "), ("a", "%"), ("", "")):
            self.assertEqual(refused(self.one.with_field, name, value), "fields")
        self.assertEqual(self.one.fields, [("x", "1"), ("y", ""), ("x", "2")])

    def test_without(self):
        self.assertEqual(self.one.without("x"), Response("ok", [("y", "")], "b"))
        self.assertEqual(self.one.without("x", "y", "z"), Response("ok", [], "b"))
        self.assertEqual(self.one.without(), self.one)
        put = Request("put", "/a", [("x", "1")], "b")
        self.assertEqual(put.without("x"), Request("put", "/a", [], "b"))
        self.assertEqual(self.one.all_values("x"), ["1", "2"])


class EqualTest(unittest.TestCase):
    def test_equal(self):
        self.assertEqual(Request("get", "/a", [("x", "1")]), Request("get", "/a", (("x", "1"),)))
        self.assertEqual(Response("ok", [], "b"), Response("ok", (), "b"))

    def test_unequal(self):
        put = Request("put", "/a", [("x", "1"), ("y", "2")], "b")
        for other in (Request("put", "/b", put.fields, "b"), Request("put", "/a", [], "b"),
                      Request("put", "/a", [("y", "2"), ("x", "1")], "b"),
                      Request("put", "/a", put.fields, "c"),
                      Request("delete", "/a", put.fields), None, str(put)):
            self.assertFalse(put == other)
            self.assertTrue(put != other)
        self.assertFalse(Response("ok") == Response("part"))

    def test_two_classes(self):
        self.assertFalse(Request("get", "/") == Response("ok"))
        self.assertFalse(Response("ok") == Request("get", "/"))


class CopiesTest(unittest.TestCase):
    def test_given_list(self):
        fields = [("x", "1")]
        one = Request("get", "/", fields)
        other = Response("ok", fields)
        fields.append(("y", "2"))
        fields[0] = ("z", "3")
        self.assertEqual((one.fields, other.fields), ([("x", "1")], [("x", "1")]))

    def test_returned_lists(self):
        one = Request.fetch("/", ("x", "1"))
        one.all_values("x").append("2")
        self.assertEqual(one.all_values("x"), ["1"])
        made = one.with_field("y", "2")
        made.fields.append(("z", "3"))
        one.without("q").fields.clear()
        self.assertEqual(one.fields, [("x", "1")])
