"""[9], [10], and `cut` of [15]: the written form, and the pieces of a text."""

import unittest

from hopkeep.errors import InvalidFraming, InvalidValue
from hopkeep.messages import Request, Response
from hopkeep.writer import cut, write_message
from tests.helpers import caught


class CountedTest(unittest.TestCase):
    def test_examples(self):
        self.assertEqual(write_message(Request("get", "/a", [("keep", "age=3")])),
                         "ask get /a\nkeep: age=3\n\n")
        self.assertEqual(
            write_message(Response("ok", [("x", "1")], "hello"), chunks=[2], trailer=1),
            "answer ok\nlength: chunks\n\n2\nhe\n3\nllo\n0\nx: 1\n\n")

    def test_counted(self):
        self.assertEqual(write_message(Response("ok", [("b", ""), ("a", "1"), ("b", "2")], "x\ny")),
                         "answer ok\nb: \na: 1\nb: 2\nlength: 3\n\nx\ny")
        self.assertEqual(write_message(Request("put", "/p", [], "")), "ask put /p\nlength: 0\n\n")

    def test_no_framing_line_without_body(self):
        for message in (Request("get", "/"), Request("delete", "/"), Response("same"),
                        Response("done")):
            self.assertEqual(write_message(message), str(message) + "\n\n")
        for status in ("ok", "part", "missing", "failed", "norange", "unkept", "error"):
            self.assertEqual(write_message(Response(status)),
                             "answer " + status + "\nlength: 0\n\n")


class ChunkedTest(unittest.TestCase):
    def written(self, sizes, body="hello"):
        text = write_message(Request("put", "/", (), body), chunks=sizes)
        head = "ask put /\nlength: chunks\n\n"
        self.assertTrue(text.startswith(head))
        return text[len(head):]

    def test_sizes(self):
        self.assertEqual(self.written([]), "5\nhello\n0\n\n")
        self.assertEqual(self.written([2, 1]), "2\nhe\n1\nl\n2\nlo\n0\n\n")
        self.assertEqual(self.written([2, 3]), "2\nhe\n3\nllo\n0\n\n")
        self.assertEqual(self.written([4, 9, 9]), "4\nhell\n1\no\n0\n\n")
        self.assertEqual(self.written([5, 1]), "5\nhello\n0\n\n")
        self.assertEqual(self.written([1] * 9), "1\nh\n1\ne\n1\nl\n1\nl\n1\no\n0\n\n")
        self.assertEqual(self.written([999999]), "5\nhello\n0\n\n")

    def test_empty_body(self):
        self.assertEqual(self.written([], ""), "0\n\n")
        self.assertEqual(self.written([3], ""), "0\n\n")

    def test_newlines_in_chunks(self):
        self.assertEqual(self.written([1], "\n\n"), "1\n\n\n1\n\n\n0\n\n")

    def test_trailer(self):
        message = Response("ok", [("a", "1"), ("b", "2"), ("c", "")], "x")
        cases = {0: "a: 1\nb: 2\nc: \nlength: chunks\n\n1\nx\n0\n\n",
                 1: "a: 1\nb: 2\nlength: chunks\n\n1\nx\n0\nc: \n\n",
                 2: "a: 1\nlength: chunks\n\n1\nx\n0\nb: 2\nc: \n\n",
                 3: "length: chunks\n\n1\nx\n0\na: 1\nb: 2\nc: \n\n"}
        for trailer, text in cases.items():
            self.assertEqual(write_message(message, chunks=[], trailer=trailer),
                             "answer ok\n" + text)

    def test_sizes_stay(self):
        sizes = [2, 2]
        self.written(sizes)
        self.assertEqual(sizes, [2, 2])


class OpenEndTest(unittest.TestCase):
    def test_open_end(self):
        self.assertEqual(write_message(Response("ok", [("a", "1")], "x\n"), open_end=True),
                         "answer ok\na: 1\n\nx\n")
        self.assertEqual(write_message(Response("error"), open_end=True), "answer error\n\n")


class FramingTest(unittest.TestCase):
    def refuses(self, message, **options):
        self.assertIsNotNone(caught(InvalidFraming, write_message, message, **options))

    def test_open_end_and_chunks(self):
        for sizes in ([], [1]):
            self.refuses(Response("ok"), chunks=sizes, open_end=True)

    def test_open_end_not_allowed(self):
        for message in (Request("put", "/", (), "x"), Request("get", "/"), Response("same"),
                        Response("done")):
            self.refuses(message, open_end=True)

    def test_chunks_not_allowed(self):
        for message in (Request("get", "/"), Request("delete", "/"), Response("same"),
                        Response("done")):
            for sizes in ([], [1]):
                self.refuses(message, chunks=sizes)

    def test_size_below_one(self):
        for sizes in ([0], [-1], [5, 0], [99, -3], [99, 99, 0]):
            self.refuses(Response("ok", (), "hello"), chunks=sizes)
        self.refuses(Response("ok"), chunks=[0])

    def test_trailer_without_chunks(self):
        message = Response("ok", [("a", "1"), ("b", "1")])
        for trailer in (1, 2, 3, -1):
            self.refuses(message, trailer=trailer)
            self.refuses(message, trailer=trailer, open_end=True)
        self.refuses(Request.fetch("/", ("a", "1")), trailer=1)

    def test_trailer_out_of_range(self):
        for trailer in (-1, 3):
            self.refuses(Response("ok", [("a", "1"), ("b", "1")]), chunks=[], trailer=trailer)
        self.refuses(Response("ok"), chunks=[], trailer=1)

    def test_options_only_by_name(self):
        with self.assertRaises(TypeError):
            write_message(Response("ok"), [])


class CutTest(unittest.TestCase):
    def test_sizes(self):
        self.assertEqual(list(cut("abcdef", [2, 1])), ["ab", "c", "def"])
        self.assertEqual(list(cut("abc", [1, 0, 2])), ["a", "", "bc", ""])
        self.assertEqual(list(cut("abc", [])), ["abc"])
        self.assertEqual(list(cut("", [])), [""])

    def test_beyond_the_end(self):
        self.assertEqual(list(cut("abc", [2, 9, 4, 0])), ["ab", "c", "", "", ""])
        self.assertEqual(list(cut("", [3])), ["", ""])

    def test_negative(self):
        for sizes in ([-1], [1, -1], [9, 9, -2]):
            pieces = cut("abc", sizes)
            error = caught(InvalidValue, next, pieces)
            self.assertEqual(error.name, "sizes")

    def test_changed_list(self):
        sizes = [1, 1]
        pieces = cut("abc", sizes)
        self.assertEqual(next(pieces), "a")
        sizes.clear()
        self.assertEqual(list(pieces), ["b", "c"])
