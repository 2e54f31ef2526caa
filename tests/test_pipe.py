"""[16]: pipes."""

import random
import unittest

from hopkeep.errors import InvalidFraming, ReaderClosed
from hopkeep.messages import Request, Response
from hopkeep.pipe import Pipe
from hopkeep.writer import cut, write_message
from tests.helpers import caught

A, B, C = (Request.fetch("/" + name) for name in "abc")
DONE = "answer done\n\n"
SAME = "answer same\n\n"
OPEN = "answer ok\n\n"


def piped(*requests):
    pipe = Pipe()
    for request in requests:
        pipe.send(request)
    return pipe


class PipeTest(unittest.TestCase):
    def state(self, pipe, waiting, fault):
        self.assertEqual((pipe.waiting, pipe.fault), (waiting, fault))

    def test_send(self):
        pipe = Pipe()
        self.state(pipe, 0, None)
        put = Request("put", "/a", [("x", "1")], "hello")
        self.assertEqual(pipe.send(put), write_message(put))
        self.assertEqual(pipe.send(put, chunks=[2], trailer=1),
                         "ask put /a\nlength: chunks\n\n2\nhe\n3\nllo\n0\nx: 1\n\n")
        self.state(pipe, 2, None)

    def test_pairs_in_order(self):
        pipe = piped(A, B)
        self.assertEqual(pipe.take(SAME), [(A, Response("same"))])
        self.state(pipe, 1, None)
        pipe.send(C)
        self.assertEqual(pipe.take(DONE + "answer ok\nlength: 1\n\n"), [(B, Response("done"))])
        self.assertEqual(pipe.take("x"), [(C, Response("ok", (), "x"))])
        self.state(pipe, 0, None)
        self.assertEqual(pipe.shut(), ([], []))
        self.state(pipe, 0, None)

    def test_any_pieces(self):
        rng = random.Random(3)
        messages = [Response("ok", [("x", "1")], "a\nb"), Response("same"), Response("missing"),
                    Response("part", (), "xyz")]
        requests = [A, B, C, A]
        text = "".join(write_message(one, **({"chunks": [1], "trailer": len(one.fields)}
                                             if one.may_have_body else {})) for one in messages)
        for turn in range(60):
            sizes = [1] * len(text) if turn == 0 else [rng.randrange(20) for _ in range(12)]
            pipe = piped(*requests)
            pairs = [pair for piece in cut(text, sizes) for pair in pipe.take(piece)]
            self.assertEqual(pairs, list(zip(requests, messages)))
            self.assertIsInstance(pairs[0], tuple)
            self.state(pipe, 0, None)

    def test_request_that_is_sent_while_the_response_comes(self):
        pipe = Pipe()
        self.assertEqual(pipe.take("answer done\n"), [])
        pipe.send(A)
        self.assertEqual(pipe.take("\n"), [(A, Response("done"))])
        self.state(pipe, 0, None)

    def test_unasked(self):
        pipe = Pipe()
        self.assertEqual(pipe.take(DONE), [])
        self.state(pipe, 0, ("unasked", 0))
        pipe = piped(A, B)
        pairs = pipe.take(DONE + SAME + DONE + DONE)
        self.assertEqual(pairs, [(A, Response("done")), (B, Response("same"))])
        self.state(pipe, 0, ("unasked", 2))

    def test_what_follows_an_unasked_response_is_ignored(self):
        for behind in ("", "x\n", "%", DONE, OPEN, OPEN + "x", "answer ok\nlength: 5\n\nx"):
            for ones in (False, True):
                pipe = piped(A)
                text = DONE + DONE + behind
                pairs = [pair for piece in (text if ones else [text]) for pair in pipe.take(piece)]
                self.assertEqual(pairs, [(A, Response("done"))])
                self.state(pipe, 0, ("unasked", 1))
                self.assertEqual(pipe.send(B), write_message(B))
                self.state(pipe, 1, ("unasked", 1))
                self.assertEqual(pipe.take(DONE), [])
                self.assertEqual(pipe.take("%"), [])
                self.assertEqual(pipe.shut(), ([], [B]))
                self.state(pipe, 1, ("unasked", 1))

    def test_fault_of_the_stream(self):
        pipe = piped(A, B, C)
        self.assertEqual(pipe.take(DONE + "answer x\n" + DONE), [(A, Response("done"))])
        self.state(pipe, 2, ("start", 13))
        self.assertEqual(pipe.take(DONE), [])
        self.assertEqual(pipe.send(A, chunks=None, trailer=0), write_message(A))
        self.state(pipe, 3, ("start", 13))
        self.assertEqual(pipe.take(DONE), [])
        self.assertEqual(pipe.shut(), ([], [B, C, A]))
        self.state(pipe, 3, ("start", 13))

    def test_fault_while_no_request_waits(self):
        pipe = Pipe()
        self.assertEqual(pipe.take("answer done\n%"), [])
        self.state(pipe, 0, ("character", 12))

    def test_requests_are_no_responses(self):
        pipe = piped(A)
        self.assertEqual(pipe.take(write_message(A)), [])
        self.state(pipe, 1, ("start", 0))

    def test_invalid_framing_remembers_nothing(self):
        pipe = Pipe()
        for options in ({"chunks": []}, {"trailer": 1}, {"chunks": [0]}):
            self.assertIsNotNone(caught(InvalidFraming, pipe.send, A, **options))
            self.state(pipe, 0, None)
        put = Request("put", "/", (), "x")
        self.assertIsNotNone(caught(InvalidFraming, pipe.send, put, chunks=[1], trailer=1))
        self.state(pipe, 0, None)
        self.assertEqual(pipe.take(DONE), [])
        self.state(pipe, 0, ("unasked", 0))

    def test_framing_only_by_name(self):
        with self.assertRaises(TypeError):
            Pipe().send(A, [])


class ShutTest(unittest.TestCase):
    def state(self, pipe, waiting, fault):
        self.assertEqual((pipe.waiting, pipe.fault), (waiting, fault))

    def test_open_end(self):
        pipe = piped(A, B, C)
        self.assertEqual(pipe.take(DONE + OPEN + "x\n"), [(A, Response("done"))])
        self.state(pipe, 2, None)
        told = pipe.shut()
        self.assertEqual(told, ([(B, Response("ok", (), "x\n"))], [C]))
        self.assertIsInstance(told, tuple)
        self.state(pipe, 1, None)

    def test_open_end_unasked(self):
        pipe = piped(A)
        self.assertEqual(pipe.take(DONE + OPEN + "x"), [(A, Response("done"))])
        self.state(pipe, 0, None)
        self.assertEqual(pipe.shut(), ([], []))
        self.state(pipe, 0, ("unasked", 1))

    def test_request_that_is_sent_before_the_end(self):
        pipe = Pipe()
        self.assertEqual(pipe.take(OPEN), [])
        pipe.send(A)
        self.assertEqual(pipe.shut(), ([(A, Response("ok"))], []))
        self.state(pipe, 0, None)

    def test_cut(self):
        pipe = piped(A, B)
        pipe.take("answer ok\n")
        self.assertEqual(pipe.shut(), ([], [A, B]))
        self.state(pipe, 2, ("cut", 10))

    def test_nothing_came(self):
        pipe = piped(A)
        self.assertEqual(pipe.shut(), ([], [A]))
        self.state(pipe, 1, None)

    def test_reader_closed(self):
        for text in ("", DONE, DONE + DONE, "x\n", OPEN, "answer"):
            pipe = piped(A)
            pipe.take(text)
            pipe.shut()
            before = (pipe.waiting, pipe.fault)
            for _ in range(2):
                self.assertIsNotNone(caught(ReaderClosed, pipe.send, A))
                self.assertIsNotNone(caught(ReaderClosed, pipe.send, A, chunks=[0]))
                self.assertIsNotNone(caught(ReaderClosed, pipe.take, ""))
                self.assertIsNotNone(caught(ReaderClosed, pipe.take, DONE))
                self.assertIsNotNone(caught(ReaderClosed, pipe.shut))
            self.assertEqual((pipe.waiting, pipe.fault), before)

    def test_returned_lists(self):
        pipe = piped(A, B)
        pipe.take(DONE).clear()
        _, left = pipe.shut()
        left.append(C)
        self.state(pipe, 1, None)

    def test_two_pipes(self):
        first, second = piped(A), piped(B)
        self.assertEqual(first.take("answer do"), [])
        self.assertEqual(second.take(SAME), [(B, Response("same"))])
        self.assertEqual(first.take("ne\n\n"), [(A, Response("done"))])
        second.take("x\n")
        first.send(C)
        self.state(first, 1, None)
        self.state(second, 0, ("start", 13))
        second.shut()
        self.assertEqual(first.take(SAME), [(C, Response("same"))])
