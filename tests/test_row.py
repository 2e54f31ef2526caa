"""[58] to [61]: rows, their events, asking in a row, and the log."""

import unittest

from hopkeep.errors import InvalidEvent, InvalidValue
from hopkeep.kinds import Kind
from hopkeep.makes import Make, OwnMake
from hopkeep.messages import Request, Response
from hopkeep.row import Row
from hopkeep.settings import Clock, Setting
from hopkeep.variants import Variant
from hopkeep.writer import write_message
from tests.helpers import bare, caught, get

PAGES = [("/a", "x"), ("/b", "bb")]


def row_of(makes=None, kind=None, pages=None, **settings):
    return Row(Setting([Make()] if makes is None else makes, kind or Kind(5), **settings),
               PAGES if pages is None else pages)


def play(row, *events):
    """Plays events; the results of the asks."""
    results = [row.play(event) for event in events]
    for event, result in zip(events, results):
        if event[0] != "ask" and result is not None:
            raise AssertionError(event)
    return [result for event, result in zip(events, results) if event[0] == "ask"]


def ask(*fields, hop=1, path="/a"):
    return ("ask", hop, get(*fields, path=path))


def bodies(row, *events):
    return [answer.body if answer.status == "ok" else answer.status for answer in play(row, *events)]


def state(row):
    return (row.time, row.clock_offsets(), row.link_delays(), row.log)


class RowTest(unittest.TestCase):
    def test_example(self):
        row = Row(Setting([Make()], Kind(5)), [("/a", "x")])
        first = row.play(("ask", 1, Request.fetch("/a")))
        row.play(("wait", 3))
        row.play(("change", "/a", "y"))
        row.play(("wait", 1))
        second = row.play(("ask", 1, Request.fetch("/a")))
        self.assertEqual([first.fields, second.body, row.log[1]],
                         [[("date", "0"), ("mark", '"v1.0"'), ("keep", "lasts=5"), ("age", "0")], "x",
                          (4, 1, "/a", "ok", 4, 1)])

    def test_at_first(self):
        setting = Setting([Make()] * 3, Kind(5), clocks=[Clock(5, 5)] * 4, delays=[3, 4, 5])
        row = Row(setting, PAGES)
        self.assertIs(row.setting, setting)
        self.assertEqual(state(row), (0, [0, 0, 0, 0], [0, 0, 0], []))
        self.assertEqual([answer.body for answer in play(row, ask(), ask(path="/b"), ask(hop=3, path="/c"))],
                         ["x", "bb", ""])

    def test_pages(self):
        variants = [Variant("text", "en", "none", "T"), Variant("page", "en", "none", "P", weight=1)]
        row = row_of(pages=[("/v", variants), ("/t", "text"), ("/w", variants[:1])])
        variants.clear()
        self.assertEqual(play(row, ask(path="/w"))[0].body, "T")
        self.assertEqual(play(row, ask(("want-form", "page"), path="/v"))[0].body, "P")
        plain = [("want-form", "plain"), ("want-tongue", "any"), ("want-coding", "none")]
        self.assertEqual(play(row, ask(*plain, path="/t"))[0].body, "text")
        self.assertEqual(play(row_of(pages=[]), ask())[0].status, "missing")

    def test_wrong_pages(self):
        setting = Setting([Make()], Kind(5))
        for pages in ([("a", "x")], [("", "x")], [("/a", "x"), ("/A", "x")], [("/a", "x"), ("/a", "y")],
                      [("/a", "x"), ("/b", "y"), ("/a", "x")], [("/a", "\t")], [("/a", "$"), ("/b", "x" * 100001)],
                      [("/a", [])], [("/b", "x"), ("/a", [])], [("/a", chr(37))]):
            self.assertEqual(caught(InvalidValue, Row, setting, pages).name, "pages")

    def test_pages_are_placed_at_the_reading_0(self):
        row = row_of(kind=Kind(5, dated=True), clocks=[Clock(), Clock(5, 5)])
        answer = play(row, ("wait", 3), ("clock", 2, -2), ask())[0]
        self.assertEqual((answer.value("changed"), answer.value("date")), ("0", "1"))

    def test_lists_are_new(self):
        row = row_of([Make()] * 2)
        play(row, ask())
        for found in (row.log, row.clock_offsets(), row.link_delays()):
            found.clear()
        self.assertEqual((len(row.log), row.clock_offsets(), row.link_delays()), (1, [0, 0, 0], [0, 0]))


class InvalidEventsTest(unittest.TestCase):
    BAD = [None, 5, "wait", [], (), ("wait",), ["wait", 1], ("wait", 1, 1), ("wait", "1"), ("wait", None),
           ("wait", True), ("wait", 0), ("wait", -1), ("wait", 100001), ("sleep", 1), (1, 2), (None,), (("wait",), 1),
           (["wait"], 1), ("Wait", 1), ("clock", 1), ("clock", 0, 0), ("clock", 4, 0), ("clock", -1, 0),
           ("clock", 1, -3), ("clock", 1, 4), ("clock", 2, 1), ("clock", 3, -1), ("clock", "1", 0), ("clock", True, 0),
           ("clock", 1, False), ("clock", 1, 0, 0), ("delay", 0, 0), ("delay", 3, 0), ("delay", 1, 5),
           ("delay", 1, -1), ("delay", 2, 1), ("delay", 1), ("delay", 1, "0"), ("delay", 1, True),
           ("change", "/c", "y"), ("change", "/a"), ("change", "a", "y"), ("change", "/a", "\t"),
           ("change", "/a", chr(37)), ("change", "/a", "x" * 100001), ("change", "/a", 5), ("change", 5, "y"),
           ("change",), ("change", "/a", "y", "z"), ("alike", "/c", "y"), ("alike", "/a", "\t"), ("alike", "a", "y"),
           ("alike", "/a"), ("behind", "c", "y"), ("behind", "/A", "y"), ("behind", "/a", "\t"), ("behind", "/a"),
           ("behind", "/a", None), ("behind", "", "y"), ("lose", 0, "up"), ("lose", 3, "up"), ("lose", 1, "down"),
           ("lose", 1, ""), ("lose", 1, 1), ("lose", 1), ("lose", "up", 1), ("clip", 0, 1), ("clip", 3, 1),
           ("clip", 1, -1), ("clip", 1, "1"), ("clip", 1), ("clip", 1, True), ("stop", 0), ("stop", 3), ("stop",),
           ("stop", "1"), ("stop", 1, 1), ("stop", True), ("ask", 0, get()), ("ask", 3, get()), ("ask", 1),
           ("ask", 1, "/a"), ("ask", 1, None), ("ask", 1, Response("ok")), ("ask", True, get()), ("ask", get(), 1),
           ("ask", 1, get(), 1)]

    def row(self, **settings):
        kind = Kind(5, mark="weak")
        return row_of([Make(), Make()], kind, clocks=[Clock(2, 3), Clock(4, 0), Clock(0, 1)], delays=[4, 0], **settings)

    def test_invalid_events_change_nothing(self):
        row = self.row(loses=True)
        play(row, ("wait", 7), ("clock", 1, 2), ("delay", 1, 3), ask(), ("change", "/a", "new"),
             ("behind", "/a", "newer"))
        before = state(row)
        for event in self.BAD:
            self.assertEqual(caught(InvalidEvent, row.play, event).index, 0, event)
            self.assertEqual(state(row), before)
        self.assertEqual(bodies(row, ask(hop=1), ask(("keep", "check")), ask(("keep", "check"))), ["x", "new", "newer"])

    def test_bounds(self):
        row = self.row(loses=True)
        play(row, ("wait", 1), ("wait", 100000), ("clock", 1, -2), ("clock", 1, 3), ("clock", 2, -4), ("clock", 3, 1),
             ("delay", 1, 4), ("delay", 1, 0), ("delay", 2, 0), ("change", "/a", ""), ("alike", "/a", "x" * 100000),
             ("behind", "/c", "x\ny"), ("lose", 2, "back"), ("clip", 2, 0), ("clip", 1, 10 ** 9), ("stop", 2))
        self.assertEqual(state(row), (100001, [3, -4, 1], [0, 0], []))

    def test_losses_that_are_not_allowed(self):
        row = self.row()
        for event in (("lose", 1, "up"), ("lose", 1, "back"), ("clip", 1, 5)):
            self.assertEqual(caught(InvalidEvent, row.play, event).index, 0)
        self.assertEqual(bodies(row, ask()), ["x"])

    def test_alike_only_with_weak_marks(self):
        for mark in ("strong", "none"):
            row = row_of(kind=Kind(5, mark=mark))
            self.assertIsNotNone(caught(InvalidEvent, row.play, ("alike", "/a", "y")))
            play(row, ("change", "/a", "y"))
            self.assertEqual(bodies(row, ask()), ["y"])

    def test_changes_need_content(self):
        row = self.row()
        play(row, ("ask", 1, Request("delete", "/a")))
        for name in ("change", "alike"):
            self.assertIsNotNone(caught(InvalidEvent, row.play, (name, "/a", "y")))
        play(row, ("behind", "/a", "y"))


class EventsTest(unittest.TestCase):
    def test_wait(self):
        row = row_of()
        play(row, ("wait", 3), ("wait", 4))
        self.assertEqual(row.time, 7)
        answer = play(row, ask(), ("wait", 4), ask())
        self.assertEqual([one.value("age") for one in answer], ["0", "4"])

    def test_clock(self):
        row = row_of(clocks=[Clock(2, 3), Clock(1, 1)])
        play(row, ("clock", 2, 1), ask(), ("clock", 1, 3), ("clock", 2, -1))
        self.assertEqual(row.clock_offsets(), [3, -1])
        self.assertEqual(play(row, ask())[0].fields[0], ("date", "1"))
        self.assertEqual(row.log[1], (0, 1, "/a", "ok", 3, 0))
        # The reading went back behind the arrival, so the age is the initial one.
        play(row, ("clock", 1, -2), ask())
        self.assertEqual(row.log[2], (0, 1, "/a", "ok", 0, 0))

    def test_readings_of_changes(self):
        row = row_of(kind=Kind(5, dated=True), clocks=[Clock(), Clock(2, 2)])
        play(row, ("wait", 4), ("clock", 2, -2), ("change", "/a", "y"), ("clock", 2, 2))
        self.assertEqual(play(row, ask())[0].fields[:3], [("date", "6"), ("mark", '"v2.0"'), ("changed", "2")])

    def test_change(self):
        row = row_of()
        self.assertEqual(bodies(row, ask(), ("change", "/a", "y"), ask(), ask(("keep", "check")), ask()),
                         ["x", "x", "y", "y"])
        self.assertEqual(bodies(row, ask(path="/b")), ["bb"])

    def test_alike(self):
        row = row_of(kind=Kind(5, mark="weak"))
        self.assertEqual(bodies(row, ask(), ("alike", "/a", "y"), ask(("keep", "check")), ("change", "/a", "z"),
                                ask(("keep", "check"))), ["x", "x", "z"])

    def test_stop(self):
        for durable, body in ((False, "y"), (True, "x")):
            row = row_of([Make(durable=durable), Make()])
            self.assertEqual(bodies(row, ask(), ("stop", 2), ("change", "/a", "y"), ("stop", 1), ask()), ["x", body])

    def test_stop_of_one_hop(self):
        row = row_of([Make(), Make()])
        self.assertEqual(bodies(row, ask(), ("change", "/a", "y"), ("stop", 1), ask(), ("stop", 2), ask(hop=2), ask()),
                         ["x", "x", "y", "x"])

    def test_ask_at_each_hop(self):
        row = row_of([Make()] * 3)
        play(row, ask(hop=2), ("change", "/a", "y"))
        self.assertEqual(bodies(row, ask(hop=3), ask(hop=2), ask(hop=1)), ["x", "x", "x"])
        row = row_of([Make()] * 3)
        play(row, ask(hop=3), ask(hop=2), ("wait", 2), ("stop", 3), ("change", "/a", "y"), ask(hop=3))
        self.assertEqual(bodies(row, ask(hop=3), ask(hop=2), ask(hop=1)), ["y", "x", "x"])

    def test_writes(self):
        row = row_of([Make(), Make()])
        done = play(row, ask(), ("ask", 1, Request("put", "/a", body="new")), ask())
        self.assertEqual([bare(done[1]), done[2].body], [("done", [("date", "0")], ""), "new"])
        done = play(row, ask(), ("ask", 2, Request("delete", "/a")), ask(), ask(hop=2))
        self.assertEqual([one.status for one in done], ["ok", "done", "ok", "missing"])


class BehindTest(unittest.TestCase):
    def test_changes_after_the_answer(self):
        row = row_of(delays=[3])
        play(row, ("delay", 1, 3), ("behind", "/a", "y"))
        self.assertEqual(bodies(row, ask(), ask(("keep", "check"))), ["x", "y"])
        self.assertEqual(row.log, [(3, 1, "/a", "ok", 0, 3), (6, 1, "/a", "ok", 0, 0)])

    def test_waits_for_such_an_answer(self):
        row = row_of()
        play(row, ask(), ("behind", "/a", "y"), ask(), ask(path="/b"), ("ask", 1, Request("put", "/a", body="p")),
             ("ask", 1, Request("delete", "/a", [("if-mark", '"v9"')])), ask(("if-mark", '"v9"')))
        self.assertEqual(bodies(row, ask(("range", "9-"))), ["norange"])
        play(row, ("ask", 1, Request("delete", "/a")), ask(), ("wait", 9), ("stop", 1))
        play(row, ("ask", 1, Request("put", "/a", body="q")))
        self.assertEqual(bodies(row, ask(), ask(("keep", "check")), ask(("keep", "check"))), ["q", "y", "y"])

    def test_each_status(self):
        for field, status in ((("if-no-mark", '"v1.0"'), "same"), (("range", "0-0"), "part"), (("x", ""), "ok")):
            row = row_of()
            answer = play(row, ("behind", "/a", "y"), ask(field))[0]
            self.assertEqual(answer.status, status)
            self.assertEqual(bodies(row, ask(("keep", "check"))), ["y"])

    def test_answers_that_are_lost_count(self):
        row = row_of(loses=True)
        self.assertEqual(bodies(row, ("behind", "/a", "y"), ("lose", 1, "up"), ask(), ("lose", 1, "back"), ask(),
                                ask()),
                         ["error", "error", "y"])

    def test_path_without_content(self):
        row = row_of()
        play(row, ("behind", "/c", "y"), ask(path="/c"), ("ask", 1, Request("put", "/c", body="p")))
        self.assertEqual(bodies(row, ask(path="/c"), ask(("keep", "check"), path="/c")), ["p", "y"])

    def test_later_one_replaces(self):
        row = row_of()
        play(row, ("behind", "/a", "y"), ("behind", "/b", "c"), ("behind", "/a", "z"))
        check = ask(("keep", "check"))
        self.assertEqual(bodies(row, check, check, check, ask(path="/b"), ask(("keep", "check"), path="/b")),
                         ["x", "z", "z", "bb", "c"])

    def test_reading_and_mark(self):
        row = row_of(kind=Kind(5, dated=True), clocks=[Clock(), Clock(0, 4)], delays=[2])
        play(row, ("delay", 1, 2), ("clock", 2, 4), ("wait", 1), ("behind", "/a", "y"))
        first, second = play(row, ask(), ask(("keep", "check")))
        self.assertEqual(first.fields[:3], [("date", "5"), ("mark", '"v1.0"'), ("changed", "0")])
        self.assertEqual(second.fields[:3], [("date", "7"), ("mark", '"v2.0"'), ("changed", "5")])


class DelayTest(unittest.TestCase):
    def test_delays_add_up(self):
        row = row_of([Make(), Make()], delays=[2, 3])
        play(row, ("delay", 1, 1), ("delay", 2, 3))
        self.assertEqual(row.link_delays(), [1, 3])
        play(row, ask(), ask(), ask(hop=2))
        self.assertEqual(row.log, [(4, 1, "/a", "ok", 0, 0), (4, 1, "/a", "ok", 0, 0), (4, 2, "/a", "ok", 1, 0)])
        play(row, ("delay", 1, 0), ask(("keep", "check")))
        self.assertEqual(row.log[-1][0], 7)

    def test_answer_counts_at_its_arrival(self):
        row = row_of([Make(dates=True)], delays=[4], clocks=[Clock(0, 2), Clock(0, 9)])
        play(row, ("delay", 1, 4), ("clock", 1, 2), ask())
        self.assertEqual(row.log, [(4, 1, "/a", "ok", 6, 0)])

    def test_answers_get_old_on_their_way(self):
        row = row_of([Make(), Make()], Kind(1), delays=[5, 0])
        play(row, ("delay", 1, 5), ask(), ("change", "/a", "y"))
        self.assertEqual(bodies(row, ask()), ["x"])
        self.assertEqual(bodies(row, ("wait", 1), ask()), ["y"])

    def test_part_of_an_ask_that_goes_up_twice(self):
        row = row_of(delays=[2], pages=[("/a", "abcdefghij")])
        play(row, ("delay", 1, 2), ask(("range", "0-3")), ("wait", 9))
        answer = play(row, ask(("range", "2-6")))[0]
        self.assertEqual((answer.status, answer.body), ("part", "cdefg"))
        # One delay for the check, which was answered by `same`, and one for the rest.
        self.assertEqual(row.log[-1], (15, 1, "/a", "part", 0, None))


class LossTest(unittest.TestCase):
    def row(self, makes=1, **settings):
        make = Make(error_grace=settings.pop("error_grace", 0))
        row = row_of([make] * makes, loses=True, delays=[3] * makes, **settings)
        play(row, *[("delay", hop, 3) for hop in range(1, makes + 1)])
        return row

    def test_up(self):
        row = self.row()
        play(row, ("lose", 1, "up"), ask(), ask())
        self.assertEqual(row.log, [(0, 1, "/a", "error", 0, None), (3, 1, "/a", "ok", 0, 0)])

    def test_back(self):
        row = self.row()
        play(row, ("lose", 1, "back"), ask(), ask())
        self.assertEqual(row.log, [(3, 1, "/a", "error", 0, None), (6, 1, "/a", "ok", 0, 0)])

    def test_cut(self):
        length = len(write_message(play(row_of(), ask())[0].without("age")))
        for count, status in ((0, "error"), (1, "error"), (length - 1, "error"), (length, "ok"), (length + 1, "ok")):
            row = self.row()
            play(row, ("clip", 1, count), ask())
            self.assertEqual(row.log, [(3, 1, "/a", status, 0, 0 if status == "ok" else None)])
            self.assertEqual(play(row, ask(("keep", "check")))[0].status, "ok")

    def test_cut_of_a_response_without_a_body(self):
        same = Response("same", [("date", "3"), ("mark", '"v1.0"'), ("keep", "lasts=5")])
        length = len(write_message(same))
        for count, status in ((0, "error"), (length - 1, "error"), (length, "ok")):
            row = self.row()
            play(row, ask(), ("clip", 1, count), ask(("keep", "check")))
            self.assertEqual(row.log[-1][3], status)

    def test_orders_wait(self):
        row = self.row()
        play(row, ("clip", 1, 0), ("lose", 1, "back"), ("lose", 1, "up"), ("lose", 1, "up"))
        play(row, ask(), ask(), ask(), ask())
        self.assertEqual([entry[:4:3] for entry in row.log], [(0, "error"), (3, "error"), (6, "error"), (9, "ok")])

    def test_later_order_replaces(self):
        row = self.row()
        play(row, ("clip", 1, 0), ("clip", 1, 10 ** 6), ask())
        self.assertEqual(row.log[-1][3], "ok")
        row = self.row()
        play(row, ("clip", 1, 10 ** 6), ("clip", 1, 0), ask(), ask())
        self.assertEqual([entry[3] for entry in row.log], ["error", "ok"])

    def test_kept_answers_use_no_link(self):
        row = self.row()
        play(row, ask(), ("lose", 1, "up"), ask(), ask(), ask(("keep", "check")), ask(("keep", "check")))
        self.assertEqual([entry[3] for entry in row.log], ["ok", "ok", "ok", "error", "ok"])

    def test_each_link(self):
        # An error that comes from the second hop takes the delay of the first link.
        for way, time in (("up", 3), ("back", 6)):
            row = self.row(2)
            play(row, ("lose", 2, way), ask())
            self.assertEqual(row.log, [(time, 1, "/a", "error", 0, None)])
            row = self.row(2)
            play(row, ("lose", 1, way), ask(), ask(hop=2))
            self.assertEqual([entry[3] for entry in row.log], ["error", "ok"])
            self.assertEqual(row.log[0][0], 0 if way == "up" else 6)

    def test_answers_that_were_lost_stay_kept_further_up(self):
        row = self.row(2)
        play(row, ("lose", 1, "back"), ask(), ("change", "/a", "y"))
        self.assertEqual(bodies(row, ask(hop=2)), ["x"])

    def test_error_grace(self):
        row = self.row(error_grace=2)
        play(row, ask(), ("wait", 4), ("lose", 1, "up"), ("change", "/a", "y"), ("wait", 1))
        self.assertEqual(bodies(row, ask()), ["x"])
        self.assertEqual(row.log[-1], (8, 1, "/a", "ok", 5, 1))
        self.assertEqual(bodies(row, ("wait", 2), ("lose", 1, "up"), ask(), ask()), ["error", "y"])

    def test_lost_writes(self):
        row = self.row()
        put = Request("put", "/a", body="new")
        answers = play(row, ask(), ("lose", 1, "back"), ("ask", 1, put), ask())
        self.assertEqual([answers[1].status, answers[2].body], ["error", "new"])
        row = self.row()
        answers = play(row, ask(), ("lose", 1, "up"), ("ask", 1, put), ask())
        self.assertEqual([answers[1].status, answers[2].body], ["error", "x"])


class LogTest(unittest.TestCase):
    def test_entries(self):
        row = row_of([Make(), OwnMake()], Kind(5), pages=[("/a", "abc"), ("/b", "bb")])
        events = [ask(), ("wait", 2), ask(hop=2), ask(("range", "0-1")), ask(("if-no-mark", '"v1.0"')), ask(path="/c"),
                  ("change", "/a", "new"), ("wait", 1), ask(), ("ask", 2, Request("put", "/b", body="x")),
                  ask(("keep", "kept"), path="/b"), ("ask", 1, Request("delete", "/c")), ask(("if-mark", '"v1.0"'))]
        for number, event in enumerate(events):
            before = len(row.log)
            row.play(event)
            self.assertEqual(len(row.log), before + (event[0] == "ask"), number)
        self.assertEqual(row.log, [
            (0, 1, "/a", "ok", 0, 0), (2, 2, "/a", "ok", 2, 0), (2, 1, "/a", "part", 2, None),
                                   (2, 1, "/a", "same", 2, None),
            (2, 1, "/c", "missing", 0, None), (3, 1, "/a", "ok", 3, 1), (3, 2, "/b", "done", 0, None),
            (3, 1, "/b", "unkept", 0, None), (3, 1, "/c", "missing", 0, None), (3, 1, "/a", "failed", 0, None)])

    def test_ages_that_are_not_told(self):
        row = row_of([Make(tells=False)])
        play(row, ask(), ("wait", 4), ask())
        self.assertEqual([entry[4] for entry in row.log], [0, 0])

    def test_lateness_of_content_that_came_back(self):
        row = row_of()
        play(row, ask(), ("change", "/a", "y"), ("wait", 2), ("change", "/a", "x"), ("wait", 2), ask())
        self.assertEqual(row.log[-1][5], 0)

    def test_lateness_of_removed_content(self):
        row = row_of([Make(), Make()])
        play(row, ask(), ("ask", 2, Request("delete", "/a")), ("wait", 3), ask())
        self.assertEqual(row.log[-1], (3, 1, "/a", "ok", 3, 3))

    def test_bodies_of_errors_have_no_lateness(self):
        row = row_of(pages=[("/a", "")])
        play(row, ask(("keep", "kept")))
        self.assertEqual(row.log, [(0, 1, "/a", "unkept", 0, None)])


class LengthsTest(unittest.TestCase):
    def test_rows_of_one_to_six_hops(self):
        for hops in range(1, 7):
            row = row_of([Make()] * hops, Kind(2), delays=[1] * hops)
            play(row, *[("delay", hop, 1) for hop in range(1, hops + 1)])
            play(row, ask(), ("change", "/a", "y"), ask())
            # Each hop counts the answer as new, so the first one tells it as long as it is fresh there.
            self.assertEqual(row.log, [(hops, 1, "/a", "ok", 0, 0)] * 2)
            self.assertEqual(bodies(row, ("wait", 1), ask(hop=hops), ("wait", 9), ask()),
                             ["y" if hops > 1 else "x", "y"])
            self.assertIsNotNone(caught(InvalidEvent, row.play, ask(hop=hops + 1)))

    def test_checks_go_through_the_row(self):
        row = row_of([Make()] * 4, Kind(5, late=3))
        play(row, ask(), ("wait", 6))
        answer = play(row, ask(("keep", "check")))[0]
        self.assertEqual((answer.body, answer.value("date"), answer.value("age")), ("x", "6", "0"))
        play(row, ("wait", 7), ("change", "/a", "y"), ask())
        self.assertEqual(row.log[-1], (13, 1, "/a", "ok", 7, 0))
