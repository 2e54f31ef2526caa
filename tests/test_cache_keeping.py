"""[53], [54]: what a cache stores, which answers it gives up, and its other calls."""

import unittest

from hopkeep.cache import Cache
from hopkeep.errors import NoTicket
from hopkeep.makes import Make, OwnMake
from hopkeep.messages import Request, Response
from tests.helpers import bring, caught, get, ok, part

TEXT = "abcdefghijklmnopqrstuvwxyz"
LASTS = ("keep", "lasts=50")
MARK = ("mark", '"v1"')
VARIES = ("varies", "want-form")


def keys(cache, now=0):
    return [row[1] for row in cache.listed(now)]


def paths(cache, now=0):
    return [row[0] for row in cache.listed(now)]


def text_kept(cache, *fields):
    """What the cache keeps of a content, with dots for what it does not have."""
    found = ""
    for at in range(len(TEXT)):
        response = cache.ask(get(*fields, ("keep", "kept, late"), ("range", f"{at}-{at}")), 0)[1]
        found += response.body if response.status == "part" else "."
    return found


class MayBeKeptTest(unittest.TestCase):
    def kept(self, keep, *fields, wish="", make=None):
        cache = Cache(make or Make())
        told = bring(cache, ok(TEXT, ("keep", keep), *fields), get(("keep", wish)))
        self.assertEqual(told[1].body, TEXT)
        return cache.many == 1

    def test_directives(self):
        for keep, wish, shared, own in (("", "", True, True), ("lasts=0", "", True, True),
                                        ("check", "check", True, True), ("never", "", False, False),
                                        ("", "never", False, False), ("own", "", False, True), ("", "own", True, True),
                                        ("strict, lasts=5", "age=0", True, True)):
            self.assertEqual(self.kept(keep, wish=wish), shared)
            self.assertEqual(self.kept(keep, wish=wish, make=OwnMake()), own)

    def test_names(self):
        for value, wanted in (("", True), ("a, b", True), ("*", False), ("a, length", False), ("A", False),
                              ("a;b", False)):
            self.assertEqual(self.kept("lasts=5", ("varies", value)), wanted, value)

    def test_what_may_not_be_kept_changes_nothing(self):
        for fields, wish in (([("keep", "never")], "check"), ([LASTS, ("varies", "*")], "check"),
                             ([LASTS], "check, never")):
            cache = Cache(Make())
            bring(cache, ok(TEXT, LASTS))
            step = cache.ask(get(("keep", wish)), 3)
            self.assertEqual(cache.answer(step[2], ok("new", *fields), 3)[1].body, "new")
            self.assertEqual(cache.listed(4), [("/a", (), 4, 50, True)])
            self.assertEqual(cache.ask(get(), 4)[1].body, TEXT)

    def test_answers_without_content_are_not_kept(self):
        for status in ("missing", "failed", "norange", "unkept", "error", "same", "done"):
            cache = Cache(Make())
            bring(cache, Response(status, [LASTS, MARK]))
            self.assertEqual(cache.many, 0)

    def test_directives_of_the_request_from_below_count(self):
        cache = Cache(Make())
        bring(cache, ok(TEXT, LASTS, MARK))
        step = cache.ask(get(("keep", "check, never")), 0)
        cache.drop("/a")
        anew = cache.answer(step[2], Response("same"), 0)
        cache.answer(anew[2], ok(TEXT, LASTS, MARK), 0)
        self.assertEqual(cache.many, 0)

    def test_key_of_the_request_from_below_counts(self):
        cache = Cache(Make())
        bring(cache, ok(TEXT, LASTS, ("varies", "range")), get(("range", "x")))
        self.assertEqual(keys(cache), [(("range", "x"),)])
        step = cache.ask(get(("range", "x"), ("keep", "check")), 0)
        self.assertEqual(step[1].fields, [("keep", "check")])
        cache.answer(step[2], ok("new", LASTS, ("varies", "range")), 0)
        self.assertEqual(keys(cache), [(("range", "x"),)])


class ReplacingTest(unittest.TestCase):
    def test_ok_replaces_the_same_key(self):
        cache = Cache(Make())
        for form, body in (("text", "1"), ("page", "2"), ("text, text;4", "3")):
            step = cache.ask(get(("want-form", form), ("keep", "check")), 0)
            cache.answer(step[2], ok(body, LASTS, VARIES), 0)
        text, page = ((("want-form", ((form, 1000),)),) for form in ("text", "page"))
        self.assertEqual(keys(cache), [page, text])
        self.assertEqual(cache.ask(get(("want-form", "text")), 0)[1].body, "3")

    def test_other_names_stand_beside(self):
        cache = Cache(Make())
        for at, value in enumerate(("", "x", "x, y", "y, x, y")):
            step = cache.ask(get(("keep", "check")), 0)
            cache.answer(step[2], ok(str(at), LASTS, ("varies", value)), 0)
        self.assertEqual(keys(cache), [(), (("x", None),), (("x", None), ("y", None))])
        self.assertEqual(cache.ask(get(), 0)[1].body, "3")

    def test_ok_replaces_parts(self):
        cache = Cache(Make())
        bring(cache, part(TEXT, "0-3", LASTS, MARK), get(("range", "0-3")))
        step = cache.ask(get(), 0)
        cache.answer(step[2], ok("new", LASTS), 0)
        self.assertEqual([row[4] for row in cache.listed(0)], [True])


class PartsTest(unittest.TestCase):
    def after(self, held, answer, check=False):
        """What is kept after a part has come for a kept answer; the number of answers, and the first one's age."""
        cache = Cache(Make())
        bring(cache, held, get(("range", "0-3")))
        step = cache.ask(get(("keep", "check" if check else "")), 5)
        cache.answer(step[2], answer, 7)
        return (text_kept(cache), cache.many, cache.listed(8)[0][2])

    def test_put_into_the_kept_answer(self):
        held = part(TEXT, "0-3", LASTS, MARK)
        self.assertEqual(self.after(held, part(TEXT, "2-5, 20-21", LASTS, MARK, ("age", "4"))),
                         ("abcdef..............uv....", 1, 5))
        self.assertEqual(self.after(ok(TEXT, LASTS, MARK), part(TEXT, "2-5", LASTS, MARK), True), (TEXT, 1, 1))

    def test_replaced_if_it_does_not_fit(self):
        held = part(TEXT, "0-3", LASTS, MARK)
        longer = part(TEXT + "!", "2-5", LASTS, MARK)
        other = part("abX" + TEXT[3:], "2-5", LASTS, MARK)
        for answer, wanted in ((part(TEXT, "2-5", LASTS, ("mark", '"v2"')), "..cdef...................."),
                               (longer, "..cdef...................."), (other, "..Xdef....................")):
            self.assertEqual(self.after(held, answer), (wanted, 1, 1))

    def test_differing_character_adds_nothing(self):
        # The difference is in the second block, and the first one is not kept from the old answer either.
        held = part(TEXT, "0-3", LASTS, MARK)
        mixed = part("XYZ" + TEXT[3:20] + "!" * 6, "0-1, 20-", LASTS, MARK)
        self.assertEqual(self.after(held, mixed), ("XY..................!!!!!!", 1, 1))

    def test_kept_answer_with_a_weak_mark_or_none(self):
        for fields in ([LASTS], [LASTS, ("mark", 'w"v1"')]):
            wanted = ("..cd......................", 1, 1)
            self.assertEqual(self.after(ok(TEXT, *fields), part(TEXT, "2-3", LASTS, MARK), True), wanted)

    def test_other_names_stand_beside(self):
        held = part(TEXT, "0-3", LASTS, MARK)
        self.assertEqual(self.after(held, part(TEXT, "2-5", LASTS, MARK, ("varies", "x")))[1], 2)

    def test_refreshing_by_a_part(self):
        cache = Cache(Make())
        bring(cache, part(TEXT, "0-3", LASTS, MARK, ("x", "1"), ("y", "2"), ("varies", "q")), get(("range", "0-3")))
        step = cache.ask(get(), 5)
        told = cache.answer(step[2], part(TEXT, "4-", MARK, ("y", "3"), ("varies", "q,q"), ("age", "2")), 7)
        self.assertEqual(told[1].fields, [LASTS, ("x", "1"), ("varies", "q"), MARK, ("y", "3"), ("age", "2")])

    def test_putting_a_part_does_not_replace(self):
        cache = Cache(Make())
        plain = cache.ask(get(("range", "4-9")), 0)
        bring(cache, part(TEXT, "0-3", LASTS, MARK), get(("range", "0-3")))
        fill = cache.ask(get(("range", "0-20")), 1)
        rest = cache.ask(get(("range", "10-20")), 1)
        # The first ticket neither fills nor checks, and the second one fills; both put a part into the answer.
        cache.answer(plain[2], part(TEXT, "4-9", LASTS, MARK), 1)
        cache.answer(rest[2], part(TEXT, "10-20", LASTS, MARK), 1)
        self.assertEqual(cache.answer(fill[2], None, 1)[1].body, TEXT[:21])


class RoomTest(unittest.TestCase):
    def bring_all(self, cache, names):
        for name in names:
            bring(cache, ok(name, LASTS, MARK), get(path="/" + name))

    def test_room(self):
        for room in (1, 2, 8, 100):
            cache = Cache(Make(room=room))
            self.bring_all(cache, [str(at) for at in range(room + 3)])
            self.assertEqual(paths(cache), [f"/{at}" for at in range(3, room + 3)])
        cache = Cache(Make())
        self.bring_all(cache, "abcdefghi")
        self.assertEqual(cache.many, 8)

    def test_replacing_needs_no_room(self):
        cache = Cache(Make(room=2))
        self.bring_all(cache, "ab")
        step = cache.ask(get(("keep", "check"), path="/b"), 0)
        cache.answer(step[2], ok("new", LASTS), 0)
        self.assertEqual(paths(cache), ["/a", "/b"])

    def test_telling_is_a_use(self):
        for fields in ((), (("range", "0-0"),), (("if-no-mark", '"v1"'),), (("range", "99-"),)):
            cache = Cache(Make(room=2))
            self.bring_all(cache, "ab")
            self.assertEqual(cache.ask(get(*fields, path="/a"), 0)[0], "tell")
            self.bring_all(cache, "c")
            self.assertEqual(paths(cache), ["/a", "/c"])

    def test_refreshing_is_a_use(self):
        cache = Cache(Make(room=2))
        self.bring_all(cache, "ab")
        step = cache.ask(get(("keep", "check"), path="/a"), 0)
        cache.answer(step[2], Response("same"), 0)
        self.assertEqual(paths(cache), ["/b", "/a"])
        self.bring_all(cache, "c")
        self.assertEqual(paths(cache), ["/a", "/c"])

    def test_putting_a_part_is_a_use(self):
        cache = Cache(Make(room=2))
        bring(cache, part(TEXT, "0-3", LASTS, MARK), get(("range", "0-3")))
        step = cache.ask(get(("range", "0-9")), 0)
        self.bring_all(cache, "b")
        cache.answer(step[2], part(TEXT, "4-5", LASTS, MARK), 0)
        self.assertEqual(paths(cache), ["/b", "/a"])
        self.bring_all(cache, "c")
        self.assertEqual(paths(cache), ["/a", "/c"])

    def test_telling_after_an_error_is_a_use(self):
        cache = Cache(Make(room=2, error_grace=99))
        self.bring_all(cache, "ab")
        step = cache.ask(get(("keep", "age=1"), path="/a"), 2)
        # The clock went back, so that the age is allowed again.
        self.assertEqual(cache.answer(step[2], None, 1)[1].status, "ok")
        self.bring_all(cache, "c")
        self.assertEqual(paths(cache), ["/a", "/c"])

    def test_no_uses(self):
        def unkept(cache):
            self.assertEqual(cache.ask(get(("keep", "kept, check"), path="/a"), 0)[1].status, "unkept")

        def check(cache):
            self.assertEqual(cache.ask(get(("keep", "check"), path="/a"), 0)[0], "up")

        def fill(cache):
            self.assertEqual(cache.ask(get(path="/a"), 0)[1].value("range"), "4-25")

        def lost(cache):
            step = cache.ask(get(("keep", "check"), path="/a"), 0)
            self.assertEqual(cache.answer(step[2], None, 0)[1].status, "error")

        for action in (unkept, check, fill, lost):
            cache = Cache(Make(room=2))
            bring(cache, part(TEXT, "0-3", LASTS, MARK), get(("range", "0-3"), path="/a"))
            self.bring_all(cache, "b")
            action(cache)
            self.bring_all(cache, "c")
            self.assertEqual(paths(cache), ["/b", "/c"], action)

    def test_the_use_counts_and_not_the_storing(self):
        cache = Cache(Make(room=3))
        self.bring_all(cache, "abc")
        for name in "bca":
            cache.ask(get(path="/" + name), 0)
        self.bring_all(cache, "d")
        self.assertEqual(paths(cache), ["/a", "/c", "/d"])
        self.bring_all(cache, "e")
        self.assertEqual(paths(cache), ["/a", "/d", "/e"])


class OtherCallsTest(unittest.TestCase):
    def filled(self, make=None):
        cache = Cache(make or Make())
        for form in ("text", "page"):
            bring(cache, ok(form, LASTS, VARIES), get(("want-form", form)))
        bring(cache, ok("b", LASTS, ("age", "3")), get(path="/b"), 4)
        return cache

    def test_listed(self):
        cache = self.filled()
        text, page = ((("want-form", ((form, 1000),)),) for form in ("text", "page"))
        self.assertEqual(cache.listed(6), [("/a", text, 6, 50, True), ("/a", page, 6, 50, True),
                                           ("/b", (), 5, 50, True)])
        self.assertEqual(cache.listed(-9), [("/a", text, 0, 50, True), ("/a", page, 0, 50, True),
                                            ("/b", (), 3, 50, True)])
        cache.listed(6).clear()
        self.assertEqual(len(cache.listed(6)), 3)

    def test_many_and_in(self):
        cache = self.filled()
        self.assertEqual((cache.many, "/a" in cache, "/b" in cache, "/c" in cache), (3, True, True, False))

    def test_drop(self):
        cache = self.filled()
        self.assertEqual([cache.drop("/a"), cache.drop("/a"), cache.drop("/c")], [2, 0, 0])
        self.assertEqual((paths(cache), "/a" in cache), (["/b"], False))

    def test_drop_stains(self):
        cache = Cache(Make())
        own, other, write = (cache.ask(request, 0)[2] for request in (
            get(), get(path="/b"), Request("put", "/a", body="x")))
        self.assertEqual(cache.drop("/a"), 0)
        later = cache.ask(get(("x", "1")), 0)[2]
        cache.answer(own, ok("a", LASTS), 0)
        self.assertEqual(cache.many, 0)
        cache.answer(other, ok("b", LASTS), 0)
        self.assertEqual(paths(cache), ["/b"])
        cache.answer(later, ok("a", LASTS), 0)
        self.assertEqual(paths(cache), ["/b", "/a"])
        self.assertEqual(cache.answer(write, Response("done"), 0)[1].status, "done")

    def test_stop(self):
        for make, kept in ((Make(), 0), (Make(durable=True), 3)):
            cache = self.filled(make)
            tickets = [cache.ask(get(path="/c"), 0)[2] for _ in range(2)]
            self.assertEqual(tickets, [4, 5])
            self.assertIsNone(cache.stop())
            self.assertEqual((cache.many, cache.open_tickets), (kept, []))
            self.assertEqual(cache.ask(get(path="/c"), 0)[2], 6)
            for ticket in tickets:
                self.assertEqual(caught(NoTicket, cache.answer, ticket, ok("x"), 0).ticket, ticket)

    def test_no_ticket(self):
        cache = self.filled()
        cache.ask(get(path="/c"), 0)
        before = cache.listed(9)
        for ticket in (0, 1, 3, 5, -1):
            for response in (ok("new", LASTS), None, Response("missing")):
                self.assertEqual(caught(NoTicket, cache.answer, ticket, response, 9).ticket, ticket)
        self.assertEqual((cache.listed(9), cache.open_tickets), (before, [4]))
        cache.answer(4, ok("c", LASTS), 9)
        self.assertEqual(caught(NoTicket, cache.answer, 4, ok("c"), 9).ticket, 4)

    def test_open_tickets(self):
        cache = Cache(Make())
        for at in range(5):
            cache.ask(get(path=f"/{at}"), 0)
        cache.answer(4, ok("x"), 0)
        cache.answer(1, None, 0)
        self.assertEqual(cache.open_tickets, [2, 3, 5])
        cache.open_tickets.clear()
        self.assertEqual(cache.open_tickets, [2, 3, 5])

    def test_arguments_stay_as_they_are(self):
        cache = Cache(Make())
        request = get(("range", "0-1"), ("if-no-mark", '"x"'))
        response = ok(TEXT, ("age", "4"), LASTS, MARK)
        step = cache.ask(request, 0)
        told = cache.answer(step[2], response, 0)[1]
        cache.answer(cache.ask(get(("keep", "check")), 1)[2], Response("same", [("z", "1")]), 1)
        self.assertEqual(request, get(("range", "0-1"), ("if-no-mark", '"x"')))
        self.assertEqual(response, ok(TEXT, ("age", "4"), LASTS, MARK))
        self.assertEqual(told.fields, [LASTS, MARK, ("part", "0-1/26"), ("age", "4")])
