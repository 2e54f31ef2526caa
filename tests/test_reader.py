"""[11] to [15]: reading streams."""

import random
import unittest

from hopkeep.errors import InvalidMessage, InvalidValue, ReaderClosed
from hopkeep.messages import Request, Response
from hopkeep.reader import Reader, read_messages
from hopkeep.writer import cut, write_message
from tests.helpers import caught, read_by_ones, read_in_pieces


def whole(side, text):
    return read_in_pieces(side, text, [])


class ReadingTest(unittest.TestCase):
    """[11]: what is read."""

    def reads(self, side, text, messages):
        told = whole(side, text)
        self.assertEqual(told, (messages, "closed", None, len(messages)))
        self.assertEqual(read_by_ones(side, text), told)
        self.assertEqual(read_messages(side, text), messages)

    def test_several_messages(self):
        self.reads("asks", "ask get /a\nx: 1\n\nask put /b\nlength: 2\n\nhiask delete /c\n\n",
                   [Request.fetch("/a", ("x", "1")), Request("put", "/b", (), "hi"),
                    Request("delete", "/c")])
        self.reads("answers", "answer same\n\nanswer ok\nlength: 3\n\na\n\nanswer ok\n\nrest\n\n",
                   [Response("same"), Response("ok", (), "a\n\n"), Response("ok", (), "rest\n\n")])

    def test_nothing(self):
        self.reads("asks", "", [])
        self.reads("answers", "\n\n", [])

    def test_empty_lines(self):
        self.reads("asks", "\n\nask get /\n\n\n\nask get /\n\n\n", [Request.fetch("/")] * 2)
        self.reads("asks", "ask put /\nlength: 1\n\nx\n\n", [Request("put", "/", (), "x")])

    def test_field_lines(self):
        self.reads("asks", "ask get /\nX-Y:a\nz:\nz:    \nq:  a : b  \nKeep: C\n\n",
                   [Request.fetch("/", ("x-y", "a"), ("z", ""), ("z", ""), ("q", "a : b"),
                                  ("keep", "C"))])

    def test_framing_line_anywhere(self):
        for lines in ("length: 2\na: 1\nb: 2\n", "a: 1\nlength:2\nb: 2\n",
                      "a: 1\nb: 2\nLENGTH:   2  \n"):
            self.reads("asks", "ask put /\n" + lines + "\nhi",
                       [Request("put", "/", [("a", "1"), ("b", "2")], "hi")])

    def test_without_framing_line(self):
        self.reads("asks", "ask put /\n\nask put /\n\n", [Request("put", "/")] * 2)
        self.reads("answers", "answer missing\n\n", [Response("missing")])

    def test_length_zero(self):
        self.reads("asks", "ask get /\nlength: 0\n\nask put /\nlength: 0\n\n",
                   [Request.fetch("/"), Request("put", "/")])
        self.reads("answers", "answer same\nlength: 0\n\nanswer done\nlength: 0\n\n"
                   "answer ok\nlength: 0\n\n", [Response("same"), Response("done"), Response("ok")])

    def test_chunks(self):
        self.reads("answers", "answer ok\na: 1\nlength: chunks\n\n2\nx\n\n1\ny\n0\nB: 2\na: 3\n\n",
                   [Response("ok", [("a", "1"), ("b", "2"), ("a", "3")], "x\ny")])
        self.reads("asks", "ask put /\nlength: chunks\n\n0\n\n", [Request("put", "/")])

    def test_each_status(self):
        for status in Response.STATUSES:
            self.reads("answers", "answer " + status + "\nlength: 0\n\n", [Response(status)])

    def test_forty_fields(self):
        fields = [("x", str(k)) for k in range(40)]
        lines = "".join("x: " + value + "\n" for _, value in fields)
        self.reads("asks", "ask get /\n" + lines + "length: 0\n\n", [Request("get", "/", fields)])

    def test_long_lines(self):
        # 300 characters stand in the line, most of them spaces around the value.
        line = "a:" + " " * 297 + "b"
        self.reads("asks", "ask get /\n" + line + "\n\n", [Request.fetch("/", ("a", "b"))])
        self.reads("asks", "ask get /\na: " + "v" * 200 + " " * 97 + "\n\n",
                   [Request.fetch("/", ("a", "v" * 200))])

    def test_longest_bodies(self):
        body = "x" * 100000
        self.reads("answers", "answer ok\nlength: 100000\n\n" + body, [Response("ok", (), body)])
        self.reads("answers", "answer ok\n\n" + body, [Response("ok", (), body)])
        text = write_message(Response("ok", (), body), chunks=[50000])
        self.reads("answers", text, [Response("ok", (), body)])

    def test_feed_returns_what_is_completed(self):
        reader = Reader("asks")
        self.assertEqual(reader.feed("ask get /a\n"), [])
        self.assertEqual(reader.feed("\nask get /b\n\nask"), [Request.fetch("/a"), Request.fetch("/b")])
        self.assertEqual((reader.completed, reader.stage), (2, "start"))
        self.assertEqual(reader.feed(" put /c\nlength: 2\n\nh"), [])
        self.assertEqual(reader.feed("i"), [Request("put", "/c", (), "hi")])
        self.assertEqual(reader.finish(), [])

    def test_returned_lists(self):
        reader = Reader("asks")
        first = reader.feed("ask get /a\nx: 1\n\n")
        first[0].fields.append(("y", "2"))
        first.append(None)
        self.assertEqual(reader.feed("ask get /b\n\n"), [Request.fetch("/b")])
        self.assertEqual(reader.completed, 2)

    def test_side(self):
        for side in ("", "ask", "answer", "Asks", "both"):
            self.assertEqual(caught(InvalidValue, Reader, side).name, "side")
            self.assertEqual(caught(InvalidValue, read_messages, side, "").name, "side")
        self.assertEqual(Reader(side="asks").stage, "start")


class StageTest(unittest.TestCase):
    """[12]: what the reader expects."""

    def stages(self, side, steps):
        for by_ones in (False, True):
            reader = Reader(side)
            for text, stage in steps:
                for piece in (list(text) if by_ones else [text]):
                    reader.feed(piece)
                self.assertEqual(reader.stage, stage, text)

    def test_counted(self):
        self.stages("asks", [("", "start"), ("\n", "start"), ("ask ", "start"), ("put /", "start"),
                             ("\n", "fields"), ("a: 1", "fields"), ("\n", "fields"),
                             ("length: 2\n", "fields"), ("\n", "body"), ("\n", "body"),
                             ("x", "start"), ("", "start")])

    def test_chunked(self):
        self.stages("answers", [("answer ok\nlength: chunks\n", "fields"), ("\n", "size"),
                                ("1", "size"), ("\n", "chunk"), ("x", "end"), ("\n", "size"),
                                ("2\n", "chunk"), ("y", "chunk"), ("z", "end"), ("\n", "size"),
                                ("0", "size"), ("\n", "trailer"), ("a", "trailer"),
                                (": 1\n", "trailer"), ("\n", "start")])

    def test_open_end(self):
        self.stages("answers", [("answer ok\n", "fields"), ("\n", "body"), ("x\n\n", "body")])

    def test_no_body(self):
        self.stages("answers", [("answer done\n", "fields"), ("\n", "start")])
        self.stages("asks", [("ask get /\n", "fields"), ("\n", "start")])
        self.stages("asks", [("ask put /\nlength: 0\n", "fields"), ("\n", "start")])
        self.stages("asks", [("ask put /\n", "fields"), ("\n", "start")])

    def test_broken(self):
        self.stages("asks", [("ask get /\nb c\n", "broken"), ("ask get /\n\n", "broken"),
                             ("", "broken")])


class FaultTest(unittest.TestCase):
    """[13]: faults and their indexes."""

    def breaks(self, side, text, kind, index, completed=0):
        """The text breaks at its last character and not before; what follows is ignored."""
        before = read_in_pieces(side, text[:-1], [], end=False)
        self.assertIsNone(before[2])
        for more in ("", "\n", "ask get /\n\nanswer done\n\n", "%"):
            told = whole(side, text + more)
            self.assertEqual(told[1:], ("broken", (kind, index), completed))
            self.assertEqual(len(told[0]), completed)
            self.assertEqual(read_by_ones(side, text + more), told)
            error = caught(InvalidMessage, read_messages, side, text + more)
            self.assertEqual((error.kind, error.index), (kind, index))

    def test_character(self):
        for sign in ("%", "\t", "\r", "\x7f", "\u00e9", "\x00"):
            self.breaks("asks", sign, "character", 0)
            self.breaks("asks", "ask get /\n\nask" + sign, "character", 14, 1)
            self.breaks("asks", "ask get /\na" + sign, "character", 11)
            self.breaks("asks", "ask put /\nlength: 3\n\na" + sign, "character", 22)
            self.breaks("answers", "answer ok\n\n" + sign, "character", 11)
        head = "answer ok\nlength: chunks\n\n"
        for rest in ("%", "1%", "1\n%", "1\nx%", "0\n%", "0\na: %"):
            self.breaks("answers", head + rest, "character", len(head + rest) - 1)

    def test_character_before_long(self):
        self.breaks("asks", "x" * 300 + "%", "character", 300)
        self.breaks("answers", "answer ok\n\n" + "x" * 100000 + "%", "character", 100011)

    def test_long_lines(self):
        self.breaks("asks", "x" * 301, "long", 0)
        self.breaks("asks", "\n\n" + " " * 301, "long", 2)
        self.breaks("asks", "ask get /\na: 1\na: " + " " * 298, "long", 15)
        head = "answer ok\nlength: chunks\n\n"
        self.breaks("answers", head + "1" * 301, "long", 26)
        self.breaks("answers", head + "0\na:" + " " * 299, "long", 28)
        self.breaks("asks", "ask get /\n\n" + "x" * 301, "long", 11, 1)

    def test_lines_of_300_are_read(self):
        self.breaks("asks", "x" * 300 + "\n", "start", 0)
        self.breaks("asks", "ask get /\n" + "x" * 300 + "\n", "field", 10)
        self.breaks("answers", "answer ok\nlength: chunks\n\n" + "0" * 300 + "\n", "chunk", 26)

    def test_lines_in_bodies_have_no_limit(self):
        body = "x" * 1000
        for text in ("answer ok\n\n" + body, "answer ok\nlength: 1000\n\n" + body,
                     "answer ok\nlength: chunks\n\n1000\n" + body + "\n0\n\n"):
            self.assertEqual(read_messages("answers", text), [Response("ok", (), body)])

    def test_start(self):
        for line in (" ", "ask", "ask get", "ask get ", "ask  get /", " ask get /", "ask get / ",
                     "ask get / x", "ask post /", "ask Get /", "Ask get /", "ask get a", "ask get /A",
                     "answer ok", "ask get /" + "a" * 60, "ask get /?", "ask: get /"):
            self.breaks("asks", "\n" + line + "\n", "start", 1)
        for line in ("answer", "answer ", "answer lost", "answer OK", "answer  ok", "answer ok ",
                     " answer ok", "ask get /", "answer ok ok"):
            self.breaks("answers", line + "\n", "start", 0)

    def test_field(self):
        for line in ("x", " ", "b c", ": 1", "a b: 1", " a: 1", "a : 1", "9a: 1", "a_b: 1",
                     "length", "length : 0", "n" * 31 + ": 1", "a: " + "v" * 201):
            self.breaks("asks", "ask get /\na: 1\n" + line + "\n", "field", 15)
        self.breaks("answers", "answer ok\nlength: chunks\n\n0\na: 1\nb\n", "field", 33)

    def test_length(self):
        for value in ("", "01", "-1", "1000000", "Chunks", "chunks chunks", "1 2", "a", "2.", "0, 0"):
            self.breaks("asks", "ask put /\nlength: " + value + "\n", "length", 10)
        for value in ("1", "5", "chunks", "00", "100001", "999999", ""):
            self.breaks("asks", "ask get /\nlength: " + value + "\n", "length", 10)
            self.breaks("asks", "ask delete /\nlength: " + value + "\n", "length", 13)
            self.breaks("answers", "answer same\nlength: " + value + "\n", "length", 12)
            self.breaks("answers", "answer done\nlength: " + value + "\n", "length", 12)

    def test_second_length(self):
        for value in ("0", "3", "chunks", "999999", "x"):
            self.breaks("asks", "ask put /\nlength: 3\na: 1\nLength: " + value + "\n", "length", 25)
        self.breaks("asks", "ask get /\nlength: 0\nlength: 0\n", "length", 20)
        self.breaks("asks", "ask put /\nlength: chunks\nlength: chunks\n", "length", 25)

    def test_length_in_trailer(self):
        for value in ("0", "1", "chunks", "999999", "x"):
            self.breaks("answers", "answer ok\nlength: chunks\n\n0\nlength: " + value + "\n",
                        "length", 28)

    def test_long_length(self):
        for value in ("100001", "999999"):
            self.breaks("asks", "ask put /\nlength: " + value + "\n", "long", 10)
            self.breaks("answers", "answer ok\nlength: " + value + "\n", "long", 10)
        self.assertEqual(read_in_pieces("asks", "ask put /\nlength: 100000\n\n", [], False)[1], "body")

    def test_many(self):
        lines = "x: 1\n" * 40
        self.breaks("asks", "ask get /\n" + lines + "x: 1\n", "many", 210)
        self.breaks("asks", "ask get /\nlength: 0\n" + lines + "x: 1\n", "many", 220)
        self.breaks("asks", "ask get /\n" + lines + "x y: 1\n", "field", 210)
        head = "answer ok\nlength: chunks\n" + "x: 1\n" * 39 + "\n0\n"
        self.breaks("answers", head + "y: 1\ny: 2\n", "many", len(head) + 5)
        self.assertEqual(whole("answers", head + "y: 1\n\n")[1:], ("closed", None, 1))
        # The framing line is no field.
        text = "ask put /\n" + lines + "length: 0\n\n"
        self.assertEqual(whole("asks", text)[1:], ("closed", None, 1))

    def test_size_line(self):
        head = "answer ok\nlength: chunks\n\n1\nx\n"
        for line in ("", " ", "x", "01", "00", "-1", "1 ", " 1", "1000000", "0 ", "1;a"):
            self.breaks("answers", head + line + "\n", "chunk", 30)

    def test_long_chunks(self):
        head = "answer ok\nlength: chunks\n\n"
        self.breaks("answers", head + "100001\n", "long", 26)
        self.breaks("answers", head + "999999\n", "long", 26)
        head = head + "99999\n" + "x" * 99999 + "\n"
        self.breaks("answers", head + "2\n", "long", len(head))
        self.assertEqual(whole("answers", head + "1\ny\n0\n\n")[1:], ("closed", None, 1))

    def test_chunk_end(self):
        head = "answer ok\nlength: chunks\n\n2\nxy"
        for sign in ("z", " ", "0"):
            self.breaks("answers", head + sign, "chunk", 30)
        self.breaks("answers", head + "%", "character", 30)

    def test_long_open_end(self):
        head = "answer missing\n\n"
        self.breaks("answers", head + "x" * 100001, "long", 16)
        self.breaks("answers", "answer done\n\n" + head + "\n" * 100001, "long", 29, 1)

    def test_long_open_end_in_pieces(self):
        reader = Reader("answers")
        for piece in ("answer done\n\nanswer missing\n\nxx", "", "x" * 90000, "\n" * 9998):
            reader.feed(piece)
        self.assertEqual((reader.stage, reader.fault), ("body", None))
        reader.feed("x")
        self.assertEqual((reader.stage, reader.fault), ("broken", ("long", 29)))
        reader = Reader("answers")
        reader.feed("answer missing\n\nxx")
        reader.feed("x" * 99998)
        self.assertEqual(reader.finish(), [Response("missing", (), "x" * 100000)])

    def test_messages_before_the_fault(self):
        reader = Reader("asks")
        done = reader.feed("ask get /a\n\nask get /b\n\nask\nask get /c\n\n")
        self.assertEqual(done, [Request.fetch("/a"), Request.fetch("/b")])
        self.assertEqual((reader.fault, reader.completed), (("start", 24), 2))
        self.assertEqual(reader.feed("ask get /d\n\n"), [])
        self.assertEqual((reader.fault, reader.completed), (("start", 24), 2))

    def test_example(self):
        reader = Reader("asks")
        done = reader.feed("ask get /a\nb c\n")
        self.assertEqual([done, reader.fault], [[], ("field", 11)])
        error = caught(InvalidMessage, read_messages, "asks", "ask get a\n")
        self.assertEqual((error.kind, error.index), ("start", 0))


class EndTest(unittest.TestCase):
    """[14]: the end of a stream."""

    def test_cut_in_each_stage(self):
        for side, text in (("asks", "a"), ("asks", " "), ("asks", "ask get /\n"),
                           ("asks", "ask get /\n\nask get /\na"), ("asks", "ask get /\na: 1\n"),
                           ("asks", "ask put /\nlength: 2\n\n"), ("asks", "ask put /\nlength: 2\n\nx"),
                           ("answers", "answer ok\n"), ("answers", "answer ok\nlength: 2\n\nx")):
            self.assertEqual(whole(side, text)[1:3], ("broken", ("cut", len(text))))
        head = "answer ok\nlength: chunks\n\n"
        for rest in ("", "1", "1\n", "2\nx", "1\nx", "1\nx\n", "0", "0\n", "0\na: 1\n", "0\na"):
            told = whole("answers", head + rest)
            self.assertEqual(told, ([], "broken", ("cut", len(head + rest)), 0))

    def test_closed(self):
        for text in ("", "\n", "ask get /\n\n", "ask get /\n\n\n"):
            reader = Reader("asks")
            count = len(reader.feed(text))
            self.assertEqual(reader.finish(), [])
            self.assertEqual((reader.stage, reader.fault, reader.completed), ("closed", None, count))

    def test_open_end(self):
        for body in ("", "x", "x\n\n", "answer done\n\n"):
            reader = Reader("answers")
            self.assertEqual(reader.feed("answer done\n\nanswer part\na: 1\n\n" + body),
                             [Response("done")])
            self.assertEqual(reader.completed, 1)
            self.assertEqual(reader.finish(), [Response("part", [("a", "1")], body)])
            self.assertEqual((reader.stage, reader.fault, reader.completed), ("closed", None, 2))

    def test_finish_after_a_fault(self):
        reader = Reader("asks")
        reader.feed("x\n")
        self.assertEqual(reader.finish(), [])
        self.assertEqual((reader.fault, reader.stage), (("start", 0), "broken"))

    def test_reader_closed(self):
        for side, text in (("asks", ""), ("asks", "ask"), ("asks", "x\n"), ("answers", "answer ok\n\n")):
            reader = Reader(side)
            reader.feed(text)
            reader.finish()
            before = (reader.stage, reader.fault, reader.completed)
            for _ in range(2):
                self.assertIsNotNone(caught(ReaderClosed, reader.feed, "x"))
                self.assertIsNotNone(caught(ReaderClosed, reader.feed, ""))
                self.assertIsNotNone(caught(ReaderClosed, reader.finish))
            self.assertEqual((reader.stage, reader.fault, reader.completed), before)


def some_message(rng, side):
    fields = [(rng.choice(("a", "x-1", "keep")), rng.choice(("", "1", "a  b", "x:y")))
              for _ in range(rng.randrange(4))]
    body = "".join(rng.choice("ab\n 0:") for _ in range(rng.randrange(8)))
    if side == "asks":
        method = rng.choice(Request.METHODS)
        return Request(method, "/p", fields, body if method == "put" else "")
    status = rng.choice(Response.STATUSES)
    return Response(status, fields, "" if status in ("same", "done") else body)


def some_framing(rng, message):
    if not message.may_have_body or rng.random() < 0.4:
        return {}
    sizes = [rng.randrange(1, 5) for _ in range(rng.randrange(4))]
    return {"chunks": sizes, "trailer": rng.randint(0, len(message.fields))}


class WholeTextsTest(unittest.TestCase):
    """[11], [15]: every framing is read back, however the stream is cut."""

    def test_written_messages_are_read(self):
        rng = random.Random(1)
        for turn in range(200):
            side = rng.choice(("asks", "answers"))
            messages = [some_message(rng, side) for _ in range(rng.randrange(5))]
            text = "".join(write_message(one, **some_framing(rng, one)) for one in messages)
            if side == "answers" and turn % 2:
                messages.append(Response("ok", [("a", "")], "open\nend"))
                text += write_message(messages[-1], open_end=True)
            self.assertEqual(read_messages(side, text), messages)
            sizes = [rng.randrange(9) for _ in range(20)]
            reader = Reader(side)
            done = [one for piece in cut(text, sizes) for one in reader.feed(piece)]
            self.assertEqual(done + reader.finish(), messages)
            self.assertEqual(read_by_ones(side, text), whole(side, text))

    def test_damaged_streams_are_told_alike(self):
        rng = random.Random(2)
        kinds = {}
        for _ in range(1500):
            side = rng.choice(("asks", "answers"))
            messages = [some_message(rng, side) for _ in range(rng.randrange(1, 4))]
            text = "".join(write_message(one, **some_framing(rng, one)) for one in messages)
            at = rng.randrange(len(text))
            text = text[:at] + rng.choice(("", "%", "\n", "x", "1", " ", ":")) + text[at + 1:]
            told = whole(side, text)
            self.assertEqual(read_by_ones(side, text), told)
            sizes = [rng.randrange(12) for _ in range(12)]
            self.assertEqual(read_in_pieces(side, text, sizes), told)
            kinds[told[2] and told[2][0]] = True
        self.assertTrue({None, "character", "start", "field", "length", "chunk", "cut"} <= set(kinds))
