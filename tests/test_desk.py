"""[62], [64]: desks, and what they tell of the log."""

import random
import unittest

from hopkeep.desk import Desk
from hopkeep.errors import InvalidEvent, InvalidValue, NothingToRedo, NothingToUndo
from hopkeep.kinds import Kind
from hopkeep.makes import Make
from hopkeep.messages import Request
from hopkeep.row import Row
from hopkeep.settings import Clock, Setting
from hopkeep.variants import Variant
from tests.helpers import caught, get

PAGES = [("/a", "x"), ("/b", "bb")]
BAD = (("wait", 0), ("change", "/c", "y"), ("alike", "/a", "y"), ("stop", 4), ("sleep",), None, ("lose", 1, "down"))
# One event of each sort, and some that bring answers into the caches.
EVENTS = [("ask", 1, get()), ("wait", 3), ("clock", 1, 2), ("delay", 1, 3), ("change", "/a", "new"),
          ("ask", 1, get(("keep", "check"))), ("behind", "/a", "newer"), ("lose", 1, "up"), ("clip", 2, 30),
          ("stop", 2), ("ask", 2, Request("put", "/c", (), "put")), ("ask", 2, get(path="/c")),
          ("ask", 1, Request("delete", "/b")), ("lose", 2, "back"), ("ask", 1, get(path="/b")), ("ask", 2, get())]


def setting_of():
    return Setting([Make(), Make(grace=2)], Kind(5, late=1), clocks=[Clock(2, 3), Clock(1, 1), Clock()],
                   delays=[4, 1], loses=True)


def desk_of(*events):
    desk = Desk(setting_of(), PAGES)
    desk.run(list(events))
    return desk


def row_after(events):
    row = Row(setting_of(), PAGES)
    for event in events:
        row.play(event)
    return row


def continued(row):
    """All that can be told of a row, and what it answers to some more events; the row is changed."""
    before = (row.time, row.log, row.clock_offsets(), row.link_delays())
    more = [("ask", hop, get(*fields, path=path)) for path in ("/a", "/b", "/c") for hop in (1, 2)
            for fields in ((("keep", "kept"),), (), (("keep", "check"),))]
    answers = [row.play(event) for event in more]
    return (before, [(answer.status, answer.fields, answer.body) for answer in answers], row.log)


class DeskTest(unittest.TestCase):
    def assert_like(self, desk, events):
        """The desk's row is as if it had played these events alone."""
        self.assertEqual(desk.history(), events)
        self.assertEqual(continued(desk.row), continued(row_after(events)))

    def test_do_returns_what_a_row_does(self):
        desk = Desk(setting_of(), PAGES)
        row = Row(setting_of(), PAGES)
        for event in EVENTS:
            self.assertEqual(desk.do(event), row.play(event))
        self.assert_like(desk, EVENTS)

    def test_undo_takes_each_event_back(self):
        for count in range(len(EVENTS)):
            desk = desk_of(*EVENTS[:count + 1])
            self.assertEqual(desk.undo(), EVENTS[count])
            self.assert_like(desk, EVENTS[:count])

    def test_redo_plays_each_event_again(self):
        for count in range(len(EVENTS)):
            desk = desk_of(*EVENTS)
            taken = [desk.undo() for _ in range(len(EVENTS) - count)]
            self.assertEqual(taken, EVENTS[count:][::-1])
            self.assertEqual([desk.redo() for _ in taken], EVENTS[count:])
            self.assertIsNotNone(caught(NothingToRedo, desk.redo))
            self.assert_like(desk, EVENTS)

    def test_some_redone(self):
        desk = desk_of(*EVENTS)
        for _ in range(9):
            desk.undo()
        for _ in range(4):
            desk.redo()
        self.assert_like(desk, EVENTS[:-5])

    def test_nothing_to_undo_or_redo(self):
        desk = Desk(setting_of(), PAGES)
        self.assertIsNotNone(caught(NothingToUndo, desk.undo))
        self.assertIsNotNone(caught(NothingToRedo, desk.redo))
        desk.do(EVENTS[0])
        self.assertIsNotNone(caught(NothingToRedo, desk.redo))
        desk.undo()
        self.assertIsNotNone(caught(NothingToUndo, desk.undo))
        self.assertEqual(desk.redo(), EVENTS[0])
        self.assert_like(desk, EVENTS[:1])

    def test_nothing_is_redone_after_do(self):
        desk = desk_of(*EVENTS[:5])
        desk.undo()
        desk.undo()
        desk.do(("wait", 7))
        self.assertIsNotNone(caught(NothingToRedo, desk.redo))
        self.assert_like(desk, EVENTS[:3] + [("wait", 7)])

    def test_an_invalid_event_changes_nothing(self):
        for bad in BAD:
            desk = desk_of(*EVENTS[:4])
            desk.undo()
            self.assertEqual(caught(InvalidEvent, desk.do, bad).index, 0)
            self.assertEqual(desk.history(), EVENTS[:3])
            self.assertEqual(desk.redo(), EVENTS[3])
            self.assert_like(desk, EVENTS[:4])

    def test_drawn_orders(self):
        for seed in range(30):
            rng = random.Random(seed)
            desk = Desk(setting_of(), PAGES)
            done, undone = [], []
            for _ in range(40):
                choice = rng.random()
                if choice < 0.5:
                    event = rng.choice(EVENTS[:12])
                    desk.do(event)
                    done, undone = done + [event], []
                elif choice < 0.8 and done:
                    self.assertEqual(desk.undo(), done[-1])
                    undone.append(done.pop())
                elif undone:
                    self.assertEqual(desk.redo(), undone[-1])
                    done.append(undone.pop())
            self.assert_like(desk, done)

    def test_changed_lists_have_no_effect(self):
        variants = [Variant("text", "en", "none", "T"), Variant("page", "en", "none", "P", weight=1)]
        pages = [("/a", "x"), ("/v", variants)]
        desk = Desk(setting_of(), pages)
        desk.do(("wait", 1))
        pages.clear()
        variants.pop(0)
        desk.undo()
        self.assertEqual([desk.do(("ask", 1, get(path=path))).body for path in ("/a", "/v")], ["x", "T"])
        desk.history().clear()
        desk.told().clear()
        desk.table().clear()
        self.assertEqual([len(desk.history()), len(desk.told()), len(desk.table())], [2, 2, 2])

    def test_wrong_pages(self):
        for pages in ([("a", "x")], [("/a", "x"), ("/a", "y")], [("/a", [])], [("/a", "\t")]):
            self.assertEqual(caught(InvalidValue, Desk, setting_of(), pages).name, "pages")


class RunTest(unittest.TestCase):
    def test_results(self):
        desk = Desk(setting_of(), PAGES)
        row = Row(setting_of(), PAGES)
        self.assertEqual(desk.run(EVENTS), [row.play(event) for event in EVENTS])
        self.assertEqual(continued(desk.row), continued(row))

    def test_each_can_be_undone(self):
        desk = desk_of(*EVENTS)
        desk.undo()
        desk.run([("wait", 1), ("wait", 2)])
        self.assertIsNotNone(caught(NothingToRedo, desk.redo))
        self.assertEqual([desk.undo(), desk.undo(), desk.undo()], [("wait", 2), ("wait", 1), EVENTS[-2]])

    def test_the_empty_list(self):
        desk = desk_of(*EVENTS[:3])
        desk.undo()
        self.assertEqual(desk.run([]), [])
        self.assertEqual(desk.history(), EVENTS[:2])
        self.assertEqual(desk.redo(), EVENTS[2])

    def test_an_invalid_event_anywhere(self):
        for bad in BAD:
            for index in (0, 2, 5):
                desk = desk_of(*EVENTS[:4])
                desk.undo()
                row = desk.row
                before = (row.time, row.log)
                events = EVENTS[4:4 + index] + [bad] + EVENTS[4 + index:9]
                self.assertEqual(caught(InvalidEvent, desk.run, events).index, index)
                self.assertEqual((desk.history(), row.time, row.log), (EVENTS[:3], *before))
                self.assertEqual(desk.redo(), EVENTS[3])
                self.assertEqual(continued(desk.row), continued(row_after(EVENTS[:4])))

    def test_the_first_invalid_one_counts(self):
        desk = Desk(setting_of(), PAGES)
        self.assertEqual(caught(InvalidEvent, desk.run, [("wait", 1), ("wait", 0), ("wait", -1)]).index, 1)

    def test_events_may_depend_on_those_before(self):
        put = ("ask", 1, Request("put", "/c", (), "c"))
        delete = ("ask", 1, Request("delete", "/c"))
        change = ("change", "/c", "d")
        desk = Desk(setting_of(), PAGES)
        self.assertEqual(caught(InvalidEvent, desk.run, [put, delete, change]).index, 2)
        self.assertEqual([answer and answer.status for answer in desk.run([put, change])], ["done", None])
        # The same events were only tried before.
        self.assertEqual([entry[3] for entry in desk.row.log], ["done"])

    def test_a_row_that_was_read_before_is_not_touched(self):
        desk = desk_of(("wait", 1))
        row = desk.row
        self.assertIsNotNone(caught(InvalidEvent, desk.run, [("wait", 5), ("ask", 1, get()), ("wait", 0)]))
        self.assertEqual((row.time, row.log), (1, []))


class LateTest(unittest.TestCase):
    def desk(self):
        """A desk with the latenesses 0, None, 1, 3."""
        desk = Desk(Setting([Make()], Kind(9)), [("/a", "x")])
        desk.run([("ask", 1, get()), ("change", "/a", "y"), ("ask", 1, get(path="/c")), ("wait", 1),
                  ("ask", 1, get()), ("wait", 2), ("ask", 1, get())])
        return desk

    def test_at_first_any_is_let(self):
        desk = self.desk()
        self.assertEqual([entry[5] for entry in desk.row.log], [0, None, 1, 3])
        self.assertIsNone(desk.let_late)
        self.assertIsNone(desk.first_late)

    def test_bounds(self):
        desk = self.desk()
        for bound, index in ((0, 2), (1, 3), (2, 3), (3, None), (4, None), (None, None), (0, 2)):
            desk.let_late = bound
            self.assertEqual((desk.let_late, desk.first_late), (bound, index))
            desk.let(None)
            self.assertIsNone(desk.let_late)
            self.assertIsNone(desk.let(bound))
            self.assertEqual((desk.let_late, desk.first_late), (bound, index))

    def test_undo_does_not_change_it(self):
        desk = self.desk()
        desk.let(1)
        desk.undo()
        self.assertEqual((desk.let_late, desk.first_late), (1, None))
        desk.redo()
        self.assertEqual((desk.let_late, desk.first_late), (1, 3))
        self.assertEqual(len(desk.history()), 7)

    def test_below_zero(self):
        desk = self.desk()
        desk.let_late = 2
        for ticks in (-1, -100):
            self.assertEqual(caught(InvalidValue, desk.let, ticks).name, "let_late")
            self.assertEqual(caught(InvalidValue, setattr, desk, "let_late", ticks).name, "let_late")
            self.assertEqual(desk.let_late, 2)


class TableTest(unittest.TestCase):
    def test_columns(self):
        desk = Desk(Setting([Make(), Make()], Kind(9)), [("/a", "x")])
        self.assertEqual(desk.table(), [])
        desk.run([("ask", 2, get()), ("behind", "/a", "y"), ("wait", 7), ("ask", 1, get()),
                  ("ask", 1, Request("put", "/a", (), "z")), ("wait", 2), ("ask", 1, get(path="/c"))])
        self.assertEqual(desk.table(), ["     0     2     0ok           0", "     7     1     7ok           0",
                                        "     7     1     0done         -", "     9     1     0missing      -"])

    def test_late_ones_and_every_status(self):
        desk = Desk(Setting([Make(grace=None)], Kind(9), loses=True), [("/a", "abc")])
        part = get(("range", "0-1"))
        desk.run([("ask", 1, get()), ("change", "/a", "y"), ("wait", 12), ("ask", 1, get()), ("ask", 1, part),
                  ("ask", 1, get(("range", "9-"))), ("ask", 1, get(("if-no-mark", "*"))), ("lose", 1, "up"),
                  ("ask", 1, get(path="/b")), ("ask", 1, get(("keep", "kept"), path="/b")),
                  ("ask", 1, get(("if-mark", '"z"')))])
        self.assertEqual([line[18:] for line in desk.table()],
                         ["ok           0", "ok          12", "part         -", "norange      -", "same         -",
                          "error        -", "unkept       -", "failed       -"])

    def test_numbers_at_and_beyond_the_width(self):
        desk = Desk(Setting([Make(grace=None)], Kind(9)), [("/a", "x")])
        desk.run([("ask", 1, get()), ("change", "/a", "y"), *[("wait", 99999)], ("ask", 1, get()), ("wait", 1),
                  ("ask", 1, get()), *[("wait", 100000)] * 10, ("ask", 1, get())])
        self.assertEqual(desk.table()[1:], [" 99999     1 99999ok       99999", "100000     1100000ok      100000",
                                            "1100000     1     0ok      1100000"])

    def test_told(self):
        desk = Desk(Setting([Make()] * 3, Kind(9)), [("/a", "x")])
        desk.run([("ask", hop, get()) for hop in (2, 1, 3, 1)])
        hops = [entry[1] for entry in desk.row.log]
        self.assertEqual([entry[1] for entry in desk.told()], hops)
        self.assertEqual(desk.told(), desk.row.log)
        for asked, found in (((1,), [1, 1]), ((2,), [2]), ((1, 3), [1, 3, 1]), ((3, 1), [1, 3, 1]), ((4,), []),
                             ((0,), []), ((2, 2), [2]), ((9, 2), [2]), ((1, 2, 3), hops)):
            self.assertEqual([entry[1] for entry in desk.told(*asked)], found)
