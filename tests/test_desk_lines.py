"""[63]: the lines of a desk."""

import unittest

from hopkeep.desk import Desk
from hopkeep.errors import InvalidEvent, InvalidLine, NothingToRedo, NothingToUndo
from hopkeep.kinds import Kind
from hopkeep.makes import Make
from hopkeep.messages import Request
from hopkeep.settings import Clock, Setting
from tests.helpers import bare, caught, get

LONG = "/" + "a" * 59
PERCENT = chr(37)


def desk_of():
    clocks = [Clock(1000, 1000)] * 3
    return Desk(Setting([Make(), Make()], Kind(5, mark="weak"), clocks=clocks, delays=[1000, 0], loses=True),
                [("/a", "x")])


def shown(event):
    """An event with its request as a tuple, so that it can be compared."""
    return tuple(bare(item) if isinstance(item, Request) else item for item in event)


class GoodLinesTest(unittest.TestCase):
    def test_each_form(self):
        for line, event in (
                ("wait 1", ("wait", 1)), ("wait 100000", ("wait", 100000)),
                ("clock 1 0", ("clock", 1, 0)), ("clock 3 1000", ("clock", 3, 1000)),
                ("clock 2 -1000", ("clock", 2, -1000)), ("delay 1 1000", ("delay", 1, 1000)),
                ("delay 2 0", ("delay", 2, 0)), ("change /a new", ("change", "/a", "new")),
                ("change /a ", ("change", "/a", "")), ("change /a  two  spaces ", ("change", "/a", " two  spaces ")),
                ("change /a x\ny\n", ("change", "/a", "x\ny\n")), ("alike /a y z", ("alike", "/a", "y z")),
                ("alike /a ", ("alike", "/a", "")), ("alike /a \n", ("alike", "/a", "\n")),
                ("behind /b y z", ("behind", "/b", "y z")), ("behind " + LONG + " ", ("behind", LONG, "")),
                ("behind /b \n ", ("behind", "/b", "\n ")), ("lose 1 up", ("lose", 1, "up")),
                ("lose 2 back", ("lose", 2, "back")), ("clip 1 0", ("clip", 1, 0)),
                ("clip 2 999999", ("clip", 2, 999999)), ("stop 2", ("stop", 2)),
                ("get 1 /a", ("ask", 1, get())), ("get 2 " + LONG, ("ask", 2, get(path=LONG))),
                ("get 1 /a check", ("ask", 1, get(("keep", "check")))),
                ("get 1 /a age=3,  late", ("ask", 1, get(("keep", "age=3,  late")))),
                ("get 1 /a " + "k" * 200, ("ask", 1, get(("keep", "k" * 200)))),
                ("put 1 /a body", ("ask", 1, Request("put", "/a", (), "body"))),
                ("put 1 /a ", ("ask", 1, Request("put", "/a"))),
                ("put 2 /c  a\n b ", ("ask", 2, Request("put", "/c", (), " a\n b "))),
                ("delete 2 /a", ("ask", 2, Request("delete", "/a")))):
            desk = desk_of()
            other = desk_of()
            result = desk.line(line)
            self.assertEqual([shown(one) for one in desk.history()], [shown(event)], line)
            self.assertEqual(result, other.do(event))
            self.assertEqual((desk.row.time, desk.row.log), (other.row.time, other.row.log))

    def test_undo_and_redo(self):
        desk = desk_of()
        self.assertIsNotNone(caught(NothingToUndo, desk.line, "undo"))
        self.assertIsNotNone(caught(NothingToRedo, desk.line, "redo"))
        self.assertIsNone(desk.line("wait 3"))
        self.assertEqual(desk.line("undo"), ("wait", 3))
        self.assertEqual(desk.row.time, 0)
        self.assertEqual(desk.line("redo"), ("wait", 3))
        self.assertEqual(desk.row.time, 3)
        desk.line("undo")
        desk.line("get 1 /a")
        self.assertIsNotNone(caught(NothingToRedo, desk.line, "redo"))

    def test_the_longest_text(self):
        desk = desk_of()
        desk.line("change /a " + "y" * 100000)
        self.assertEqual(len(desk.line("get 1 /a").body), 100000)


class BadLinesTest(unittest.TestCase):
    FORMLESS = ["", " ", "\n", "wait", "wait ", "wait x", "wait 1 2", "wait  1", " wait 1", "wait 1 ", "wait 1\n",
                "wait 01", "wait 1000000", "wait -1", "wait +1", "Wait 1", "WAIT 1", "sleep 1", "ask 1 /a",
                "clock 1", "clock 1 ", "clock 1 1 1", "clock  1 1", "clock 1  1", "clock 1 -0", "clock 1 01",
                "clock 1 --1", "clock 1 1000000", "clock -1 1", "clock x 1", "clock 1 -1000000", "clock 1 1 ",
                "delay 1", "delay 1 -1", "delay 1 01", "delay 1 1 1", "delay 1 ", "delay  1 1", "delay 1 1000000",
                "change", "change /a", "change  /a x", "change a x", "change /A x", "change  x", "change /a\tx",
                "change /a \t", "change /a " + PERCENT, "change " + LONG + "a x", "change /a " + "y" * 100001,
                "alike /a", "alike a x", "alike /a \t", "behind /a", "behind a x", "behind /a \x7f", "behind",
                "lose 1", "lose 1 ", "lose 1 up back", "lose 1  up", "lose 1 up ", "lose x up", "lose 01 up",
                "clip 1", "clip 1 -1", "clip 1 01", "clip 1 x", "clip 1 1 1", "stop", "stop ", "stop 1 1", "stop x",
                "stop 1 ", "stop 01", "get", "get 1", "get 1 ", "get /a", "get 1 a", "get 1  /a", "get 1 /a ",
                "get 1 /a  check", "get 1 /a check ", "get 1 /a \n", "get 1 /a x\ny", "get 1 /a " + PERCENT,
                "get 1 /a " + "k" * 201, "get 01 /a", "get x /a", "get -1 /a", "put 1 /a", "put 1", "put 1 a x",
                "put 1 /a \t", "put 1 /a" + "\n", "put 1  /a x", "put x /a x", "put 1 /a " + "y" * 100001, "delete",
                "delete 1", "delete 1 a", "delete 1 /a ", "delete 1 /a x", "delete  1 /a", "undo ", " undo", "undo 1",
                "redo ", "redo 1", "Undo", "undo\n", "GET 1 /a", "get\n1 /a"]
    INVALID = ["wait 0", "wait 100001", "wait 999999", "clock 0 0", "clock 4 0", "clock 1 1001", "clock 3 -1001",
               "clock 999999 0", "delay 0 0", "delay 3 0", "delay 1 1001", "delay 2 1", "change /b x", "alike /b x",
               "lose 0 up", "lose 3 up", "lose 1 down", "lose 1 up\n", "lose 1 \n", "lose 1 Up", "clip 0 1", "clip 3 1",
               "stop 0", "stop 3", "get 0 /a", "get 3 /a", "get 999999 /a check", "put 0 /a x", "put 3 /a ",
               "delete 0 /a", "delete 3 /a"]

    def assert_refused(self, desk, kind, line):
        error = caught(kind, desk.line, line)
        self.assertIsNotNone(error, line)
        self.assertEqual(desk.history(), [("wait", 2)])
        self.assertEqual((desk.row.time, desk.row.log), (2, []))
        return error

    def desk(self):
        """A desk with an event to undo and one to redo."""
        desk = desk_of()
        desk.run([("wait", 2), ("wait", 3)])
        desk.undo()
        return desk

    def test_lines_without_a_form(self):
        desk = self.desk()
        for line in self.FORMLESS:
            self.assertEqual(self.assert_refused(desk, InvalidLine, line).text, line)
        self.assertEqual(desk.redo(), ("wait", 3))

    def test_invalid_events(self):
        desk = self.desk()
        for line in self.INVALID:
            self.assertEqual(self.assert_refused(desk, InvalidEvent, line).index, 0, line)
        self.assertEqual(desk.redo(), ("wait", 3))

    def test_what_only_some_settings_allow(self):
        desk = Desk(Setting([Make()], Kind(5)), [("/a", "x")])
        for line in ("lose 1 up", "clip 1 5", "alike /a y", "delay 1 1", "clock 1 1"):
            self.assertEqual(caught(InvalidEvent, desk.line, line).index, 0)
        self.assertIsNotNone(caught(InvalidLine, desk.line, "alike a y"))
