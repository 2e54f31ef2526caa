"""[50], [51], [52]: what a cache does with the answers to writes and gets, and refreshing."""

import itertools
import unittest

from hopkeep.cache import Cache
from hopkeep.errors import NoTicket
from hopkeep.makes import Make, StrictMake
from hopkeep.messages import Request, Response
from tests.helpers import bare, bring, caught, get, ok, part

TEXT = "abcdefghijklmnopqrstuvwxyz"
LASTS = ("keep", "lasts=5")
MARK = ("mark", '"v1"')
CHECK = ("keep", "check")
LOST = None
ERROR = ("tell", "error", [], "")
UNREADABLE = Response("part", [("part", "0-1/26"), ("x", "1")], "abc")
NO_ANSWERS = (LOST, Response("error"), Response("error", [("age", "3"), ("x", "1")], "why"), UNREADABLE,
              Response("part", [], "abc"))


def plain(step):
    """A step in a form that can be compared: the fields of what is passed on, or all of what is told."""
    return ("up", step[1].fields) if step[0] == "up" else (step[0], *bare(step[1]))


def holding(response=None, make=None, request=None, now=0):
    """A cache that has kept an answer."""
    cache = Cache(Make() if make is None else make)
    bring(cache, ok(TEXT, LASTS, MARK) if response is None else response, request, now)
    return cache


def bodies(cache, *paths, now=0):
    """What the cache keeps at these paths; None where it keeps nothing."""
    answers = [cache.ask(get(("keep", "kept, late"), path=path), now)[1] for path in paths]
    return [answer.body if answer.status == "ok" else None for answer in answers]


class WritesTest(unittest.TestCase):
    def cache(self):
        cache = Cache(Make())
        for path in ("/a", "/b", "/c"):
            bring(cache, ok(path, LASTS), get(path=path))
        return cache

    def writes(self):
        return [Request("put", "/a", body="new"), Request("delete", "/a")]

    def test_told_unchanged(self):
        for write in self.writes():
            for response in (Response("done", [("age", "7"), ("x", "1")]), Response("failed", [("age", "7")], "why"),
                             Response("missing", [("age", "x"), ("age", "1")]), Response("error", [("age", "2")], "b"),
                             ok("x", ("age", "3"), LASTS), part(TEXT, "0-1", ("age", "3")), UNREADABLE,
                             Response("same", [("age", "4")]), Response("norange"), Response("unkept")):
                cache = self.cache()
                step = cache.ask(write, 0)
                self.assertEqual(cache.answer(step[2], response, 3), ("tell", response))

    def test_lost(self):
        for write in self.writes():
            cache = self.cache()
            self.assertEqual(plain(bring(cache, LOST, write)), ERROR)
            self.assertEqual(bodies(cache, "/a", "/b", "/c"), [None, "/b", "/c"])

    def test_what_is_dropped(self):
        also = ("also", "/c, b, /B, *, /none")
        for write in self.writes():
            for response, dropped in ((Response("done"), "/a"), (Response("done", [also]), "/a/c"),
                                      (Response("done", [also, ("also", "/b")]), "/a/b/c"),
                                      (Response("error", [also]), "/a"), (Response("failed", [also]), ""),
                                      (Response("missing", [also]), ""), (ok("x", LASTS, also), ""),
                                      (Response("same", [also]), ""), (Response("unkept", [also]), "")):
                cache = self.cache()
                bring(cache, response, write)
                kept = [None if path in dropped else path for path in ("/a", "/b", "/c")]
                self.assertEqual(bodies(cache, "/a", "/b", "/c"), kept)

    def test_all_answers_with_the_path_are_dropped(self):
        cache = Cache(Make())
        for form in ("text", "page"):
            bring(cache, ok(form, LASTS, ("varies", "want-form")), get(("want-form", form)))
        bring(cache, Response("done"), Request("delete", "/a"))
        self.assertEqual(cache.many, 0)

    def test_stains(self):
        for response, stained in ((LOST, "/a"), (Response("error", [("also", "/b")]), "/a"), (Response("done"), "/a"),
                                  (Response("done", [("also", "/b, b")]), "/a/b"), (Response("failed"), ""),
                                  (Response("missing"), ""), (ok("x", LASTS), "")):
            cache = Cache(Make())
            gets = [(path, cache.ask(get(path=path), 0)[2]) for path in ("/a", "/b", "/c")]
            bring(cache, response, Request("put", "/a", body="new"))
            later = cache.ask(get(path="/a/later"), 0)[2]
            for path, ticket in [*gets, ("/a/later", later)]:
                step = cache.answer(ticket, ok("old", LASTS), 0)
                self.assertEqual(step[1].body, "old")
                self.assertEqual(path in cache, path not in stained, (response, path))

    def test_only_open_tickets_are_stained(self):
        cache = Cache(Make())
        bring(cache, Response("done"), Request("put", "/a", body="new"))
        bring(cache, ok("x", LASTS))
        self.assertEqual(cache.many, 1)

    def test_refused_writes_stain_nothing(self):
        cache = Cache(Make())
        step = cache.ask(get(), 0)
        bring(cache, Response("failed"), Request("put", "/a", body="new"))
        cache.answer(step[2], ok("x", LASTS), 0)
        self.assertIn("/a", cache)

    def test_stained_answers_are_told(self):
        cache = holding()
        check = cache.ask(get(CHECK), 1)
        bring(cache, Response("done"), Request("delete", "/a"))
        self.assertEqual(plain(cache.answer(check[2], ok("old", LASTS, ("age", "2")), 1)),
                         ("tell", "ok", [LASTS, ("age", "2")], "old"))
        self.assertEqual(cache.many, 0)


class BindingTest(unittest.TestCase):
    def answered(self, response, make=None):
        cache = holding(make=make)
        step = cache.ask(get(("if-mark", '"v1"')), 3)
        told = plain(cache.answer(step[2], response, 4))
        self.assertEqual([row[:3] for row in cache.listed(4)], [("/a", (), 4)])
        self.assertEqual(bodies(cache, "/a"), [TEXT])
        return told

    def test_lost(self):
        self.assertEqual(self.answered(LOST), ERROR)

    def test_passed_on(self):
        for status in ("failed", "missing", "norange", "error", "unkept"):
            self.assertEqual(self.answered(Response(status, [("age", "9"), ("x", "1")], "b")),
                             ("tell", status, [("age", "9"), ("x", "1")], "b"))
        for status, body in (("ok", "b"), ("part", "abc"), ("same", "")):
            response = Response(status, [("age", "9"), LASTS], body)
            self.assertEqual(self.answered(response), ("tell", status, [LASTS, ("age", "9")], body))
            self.assertEqual(self.answered(response, Make(tells=False)), ("tell", status, [LASTS], body))


class PassedOnTest(unittest.TestCase):
    def test_ages(self):
        fields = [("age", "9"), ("date", "4"), ("x", "1"), ("age", "")]
        for make, age in ((Make(), [("age", "0")]), (Make(dates=True), [("age", "6")]), (Make(tells=False), []),
                          (Make(tells=False, dates=True), [])):
            for status, body in (("part", "ab"), ("same", "")):
                extra = [("part", "0-1/26")] if status == "part" else []
                step = bring(Cache(make), Response(status, extra + fields, body), now=10)
                self.assertEqual(plain(step), ("tell", status, extra + [("date", "4"), ("x", "1")] + age, body))

    def test_told_ages(self):
        for told, date, dates, age in (("3", "4", False, "3"), ("3", "4", True, "6"), ("7", "4", True, "7"),
                                       ("3", "x", True, "3"), ("3", "99", True, "3")):
            step = bring(Cache(Make(dates=dates)), Response("same", [("age", told), ("date", date)]), now=10)
            self.assertEqual(step[1].fields, [("date", date), ("age", age)])

    def test_other_statuses_unchanged(self):
        for status in ("done", "failed", "norange", "unkept", "missing"):
            response = Response(status, [("age", "9"), ("x", "1")], "" if status == "done" else "b")
            for make in (Make(), Make(tells=False)):
                self.assertEqual(bring(Cache(make), response), ("tell", response))
                cache = holding(make=make)
                for keep in ("check", "age=0"):
                    step = cache.ask(get(("keep", keep)), 1)
                    self.assertEqual(cache.answer(step[2], response, 1), ("tell", response))
                    cache = holding(make=make)

    def test_missing_drops_and_stains_nothing(self):
        cache = Cache(Make())
        for form in ("text", "page"):
            bring(cache, ok(form, LASTS, ("varies", "want-form")), get(("want-form", form)))
        bring(cache, ok("b", LASTS), get(path="/b"))
        other = cache.ask(get(("want-form", "third")), 0)
        bring(cache, Response("missing", [("x", "1")]))
        self.assertEqual(("/a" in cache, "/b" in cache), (False, True))
        cache.answer(other[2], ok("third", LASTS), 0)
        self.assertIn("/a", cache)

    def test_other_statuses_keep_what_is_kept(self):
        for status in ("failed", "norange", "unkept", "done"):
            cache = holding()
            step = cache.ask(get(CHECK), 1)
            cache.answer(step[2], Response(status), 1)
            self.assertEqual(bodies(cache, "/a"), [TEXT])

    def test_same_without_a_condition(self):
        same = Response("same", [("age", "2"), ("mark", '"v2"')])
        passed = ("tell", "same", [("mark", '"v2"'), ("age", "2")], "")
        self.assertEqual(plain(bring(Cache(Make()), same)), passed)
        bare_answer = ok(TEXT, LASTS)
        for make, response in ((Make(checks=False), None), (Make(), bare_answer), (Make(checks=False), bare_answer)):
            cache = holding(response, make)
            step = cache.ask(get(CHECK), 1)
            self.assertEqual(plain(cache.answer(step[2], same, 3)), passed)
            self.assertEqual(cache.listed(3), [("/a", (), 3, 5, True)])
        cache = holding(part(TEXT, "0-3", LASTS, MARK))
        step = cache.ask(get(), 1)
        self.assertEqual(plain(cache.answer(step[2], same, 1)), passed)


class ErrorsTest(unittest.TestCase):
    def test_nothing_kept(self):
        for response in NO_ANSWERS:
            for request in (get(), get(("range", "0-1"))):
                cache = Cache(Make(error_grace=99))
                self.assertEqual(plain(bring(cache, response, request)), ERROR)
                self.assertEqual(cache.many, 0)

    def test_told_from_the_kept_answer(self):
        told = ("tell", "ok", [LASTS, MARK, ("age", "7")], TEXT)
        for response in NO_ANSWERS:
            for grace, wanted in ((2, ERROR), (3, told), (99, told)):
                for checks in (True, False):
                    cache = holding(make=Make(error_grace=grace, checks=checks))
                    step = cache.ask(get(), 6)
                    self.assertEqual(plain(cache.answer(step[2], response, 7)), wanted)
                    self.assertEqual(cache.many, 1)

    def test_on_error(self):
        for text, wanted in (("lasts=5, on-error=2", False), ("lasts=5, on-error=3", True),
                             ("lasts=5, on-error=3, strict", False), ("lasts=5, on-error=3, check", False)):
            cache = holding(ok(TEXT, ("keep", text)))
            step = cache.ask(get(), 6)
            self.assertEqual(cache.answer(step[2], LOST, 7)[1].status, "ok" if wanted else "error")

    def test_wishes(self):
        for keep, wanted in (("check", False), ("fresh=0", False), ("age=6", False), ("age=7", True), ("late=3", True)):
            cache = holding(make=Make(error_grace=9))
            step = cache.ask(get(("keep", keep)), 40)
            # The age counts at the moment of the answer, and a clock may go back.
            self.assertEqual(cache.answer(step[2], LOST, 7)[1].status, "ok" if wanted else "error", keep)

    def test_request_decides_what_is_told(self):
        for field, status in ((("range", "0-1"), "part"), (("if-no-mark", '"v1"'), "same"),
                              (("range", "99-"), "norange")):
            cache = holding(make=Make(error_grace=9))
            step = cache.ask(get(field), 6)
            self.assertEqual(cache.answer(step[2], LOST, 7)[1].status, status)

    def test_filled(self):
        for response in NO_ANSWERS:
            cache = holding(part(TEXT, "0-3", LASTS, MARK), Make(error_grace=9))
            step = cache.ask(get(), 1)
            self.assertEqual(plain(cache.answer(step[2], response, 1)), ERROR)
            self.assertEqual(cache.many, 1)

    def test_filled_meanwhile(self):
        cache = holding(part(TEXT, "0-3", LASTS, MARK))
        first = cache.ask(get(), 1)
        second = cache.ask(get(("range", "2-")), 1)
        cache.answer(second[2], part(TEXT, "4-", LASTS, MARK), 2)
        self.assertEqual(plain(cache.answer(first[2], LOST, 3)), ("tell", "ok", [LASTS, MARK, ("age", "1")], TEXT))

    def test_filled_and_too_old(self):
        cache = holding(part(TEXT, "0-3", LASTS, MARK))
        first = cache.ask(get(), 1)
        second = cache.ask(get(("range", "2-")), 1)
        cache.answer(second[2], part(TEXT, "4-", LASTS, MARK), 2)
        self.assertEqual(plain(cache.answer(first[2], LOST, 7)), ERROR)

    def test_strict_make(self):
        cache = holding(make=StrictMake(error_grace=9))
        step = cache.ask(get(), 6)
        self.assertEqual(plain(cache.answer(step[2], LOST, 6)), ERROR)

    def test_dropped_or_replaced_meanwhile(self):
        def drop(cache):
            cache.drop("/a")

        def missing(cache):
            cache.answer(cache.ask(get(CHECK), 6)[2], Response("missing"), 6)

        def replace(cache):
            cache.answer(cache.ask(get(CHECK), 6)[2], ok("new", LASTS, MARK), 6)

        def drop_and_bring(cache):
            cache.drop("/a")
            bring(cache, ok("new", LASTS, MARK), now=6)

        def push_out(cache):
            bring(cache, ok("other", LASTS), get(path="/b"), now=6)

        for change in (drop, missing, replace, drop_and_bring, push_out):
            cache = holding(make=Make(error_grace=9, room=1))
            step = cache.ask(get(), 6)
            change(cache)
            self.assertEqual(plain(cache.answer(step[2], LOST, 6)), ERROR, change)

    def test_refreshed_meanwhile(self):
        cache = holding()
        first = cache.ask(get(), 6)
        second = cache.ask(get(), 6)
        cache.answer(second[2], Response("same"), 6)
        self.assertEqual(plain(cache.answer(first[2], LOST, 7)), ("tell", "ok", [LASTS, MARK, ("age", "1")], TEXT))


class SameTest(unittest.TestCase):
    def test_refreshed_and_told(self):
        cache = holding(ok(TEXT, LASTS, MARK, ("x", "1")))
        step = cache.ask(get(), 6)
        same = Response("same", [("age", "2"), ("keep", "lasts=9"), ("y", "2")])
        fields = [MARK, ("x", "1"), ("keep", "lasts=9"), ("y", "2")]
        self.assertEqual(plain(cache.answer(step[2], same, 7)), ("tell", "ok", [*fields, ("age", "2")], TEXT))
        self.assertEqual(cache.listed(8), [("/a", (), 3, 9, True)])

    def test_each_condition(self):
        for fields, condition in (([MARK], ("if-no-mark", '"v1"')), ([("changed", "3")], ("if-changed", "3"))):
            cache = holding(ok(TEXT, LASTS, *fields))
            step = cache.ask(get(CHECK), 2)
            self.assertEqual(plain(step), ("up", [CHECK, condition]))
            self.assertEqual(plain(cache.answer(step[2], Response("same"), 3)),
                             ("tell", "ok", [LASTS, *fields, ("age", "0")], TEXT))

    def test_told_without_asking_for_the_use(self):
        for keep in ("check", "age=0", "fresh=99", "late=0"):
            cache = holding()
            step = cache.ask(get(("keep", keep)), 6)
            answer = cache.answer(step[2], Response("same", [("age", "77"), ("keep", "check, lasts=1")]), 6)
            self.assertEqual(answer[1].status, "ok")
            self.assertEqual(answer[1].value("age"), "77")

    def test_conditions_of_the_reader(self):
        for field, status in ((("if-no-mark", '"v1"'), "same"), (("if-no-mark", '"v2"'), "ok"),
                              (("range", "0-1"), "part")):
            cache = holding()
            step = cache.ask(get(field), 6)
            self.assertEqual(step[1].fields, [("if-no-mark", '"v1"')])
            self.assertEqual(cache.answer(step[2], Response("same"), 6)[1].status, status)

    def test_filled_if_it_cannot_be_told(self):
        cache = holding(part(TEXT, "0-3", LASTS, MARK))
        step = cache.ask(get(("x", "1"), ("range", "2-9")), 6)
        self.assertEqual(plain(step), ("up", [("x", "1"), ("if-no-mark", '"v1"')]))
        fill = cache.answer(step[2], Response("same", [("mark", '"v1"')]), 6)
        self.assertEqual(plain(fill), ("up", [("x", "1"), ("range", "4-9"), ("if-part", '"v1"')]))
        self.assertEqual((fill[2], cache.open_tickets), (3, [3]))
        self.assertEqual(cache.listed(7), [("/a", (), 1, 5, False)])
        told = cache.answer(fill[2], part(TEXT, "4-9", LASTS, MARK), 8)
        self.assertEqual(plain(told), ("tell", "part", [LASTS, MARK, ("part", "2-9/26"), ("age", "0")], TEXT[2:10]))

    def test_asked_anew(self):
        for change in ("drop", "replace", "again"):
            cache = holding()
            request = get(("if-no-mark", '"v0"'), ("x", "1"), ("range", "0-1"))
            step = cache.ask(request, 6)
            if change == "replace":
                cache.answer(cache.ask(get(CHECK), 6)[2], ok("new", LASTS, MARK), 6)
            else:
                cache.drop("/a")
            if change == "again":
                bring(cache, ok(TEXT, LASTS, MARK), now=6)
            anew = cache.answer(step[2], Response("same"), 6)
            self.assertEqual(plain(anew), ("up", [("x", "1")]))
            self.assertEqual(cache.open_tickets, [anew[2]])
            told = cache.answer(anew[2], ok(TEXT, LASTS, MARK), 9)
            self.assertEqual(plain(told), ("tell", "part", [LASTS, MARK, ("part", "0-1/26"), ("age", "0")], "ab"))
            self.assertIn("/a", cache)

    def test_new_ticket_is_plain_and_not_stained(self):
        cache = holding(make=Make(error_grace=99))
        step = cache.ask(get(("range", "0-1")), 6)
        cache.drop("/a")
        anew = cache.answer(step[2], Response("same"), 6)
        second = cache.ask(get(), 6)
        cache.answer(second[2], ok("other", LASTS), 6)
        # Neither filled nor checked: no kept answer is told for it, and `same` and parts are passed on.
        self.assertEqual(plain(cache.answer(anew[2], LOST, 6)), ERROR)
        for response in (Response("same"), part(TEXT, "0-1", LASTS)):
            cache = holding()
            step = cache.ask(get(), 6)
            cache.drop("/a")
            anew = cache.answer(step[2], Response("same"), 6)
            told = cache.answer(anew[2], response, 6)
            self.assertEqual((told[0], told[1].status), ("tell", response.status))

    def test_stopped_caches_have_no_tickets(self):
        cache = holding()
        step = cache.ask(get(), 6)
        cache.stop()
        self.assertEqual(caught(NoTicket, cache.answer, step[2], Response("same"), 6).ticket, step[2])


class OkTest(unittest.TestCase):
    def test_told_with_the_initial_age(self):
        response = ok(TEXT, ("age", "2"), LASTS, ("date", "5"), ("part", "x"), ("parts", "2"), ("x", "1"))
        for make, age in ((Make(), [("age", "2")]), (Make(dates=True), [("age", "4")]), (Make(tells=False), [])):
            step = bring(Cache(make), response, now=9)
            self.assertEqual(plain(step), ("tell", "ok", [LASTS, ("date", "5"), ("x", "1"), *age], TEXT))

    def test_told_as_the_request_asks(self):
        response = ok(TEXT, MARK, LASTS)
        for keep in ("late", "never"):
            for field, status, body in ((("if-no-mark", '"v1"'), "same", ""), (("range", "0-1"), "part", "ab"),
                                        (("if-no-mark", '"v2"'), "ok", TEXT), (("range", "99-"), "norange", "")):
                step = bring(Cache(Make()), response, get(field, ("keep", keep)))
                self.assertEqual((step[1].status, step[1].body), (status, body))

    def test_each_form_of_ticket(self):
        for held, fields in ((part(TEXT, "0-3", LASTS, MARK), ()), (ok(TEXT, LASTS, MARK), (CHECK,)),
                             (ok(TEXT, LASTS), (CHECK,))):
            cache = holding(held)
            step = cache.ask(get(*fields), 1)
            self.assertEqual(plain(cache.answer(step[2], ok("new", ("keep", "lasts=7"), ("age", "3")), 2)),
                             ("tell", "ok", [("keep", "lasts=7"), ("age", "3")], "new"))
            self.assertEqual(cache.listed(2), [("/a", (), 3, 7, True)])

    def test_empty_content(self):
        cache = Cache(Make())
        self.assertEqual(bring(cache, ok("", LASTS))[1].body, "")
        self.assertEqual(cache.listed(0), [("/a", (), 0, 5, True)])
        self.assertEqual(plain(cache.ask(get(("range", "0-")), 0))[1], "norange")


class PartTest(unittest.TestCase):
    def test_passed_on_if_neither_filled_nor_checked(self):
        for make, age in ((Make(), [("age", "3")]), (Make(tells=False), [])):
            cache = Cache(make)
            step = bring(cache, part(TEXT, "0-3", ("age", "3"), LASTS, MARK), get(("range", "0-3")), 5)
            self.assertEqual(plain(step), ("tell", "part", [LASTS, MARK, ("part", "0-3/26"), *age], "abcd"))
            self.assertEqual(cache.listed(6), [("/a", (), 4, 5, False)])

    def test_filled(self):
        cache = holding(part(TEXT, "0-3, 10-12", LASTS, MARK, ("x", "1")))
        step = cache.ask(get(), 1)
        told = cache.answer(step[2], part(TEXT, "4-9, 13-", ("keep", "lasts=7"), MARK, ("age", "2")), 3)
        fields = [("x", "1"), ("keep", "lasts=7"), MARK]
        self.assertEqual(plain(told), ("tell", "ok", [*fields, ("age", "2")], TEXT))
        self.assertEqual(cache.listed(4), [("/a", (), 3, 7, True)])

    def test_too_little(self):
        cache = holding(part(TEXT, "0-3", LASTS, MARK))
        step = cache.ask(get(("x", "1"), ("range", "2-9")), 1)
        anew = cache.answer(step[2], part(TEXT, "4-8", LASTS, MARK), 3)
        self.assertEqual(plain(anew), ("up", [("x", "1")]))
        self.assertEqual(cache.listed(3), [("/a", (), 0, 5, False)])
        self.assertEqual(cache.ask(get(("range", "0-8")), 3)[1].body, TEXT[:9])
        told = cache.answer(anew[2], ok(TEXT, LASTS, MARK), 3)
        self.assertEqual((told[1].status, told[1].body), ("part", TEXT[2:10]))

    def test_checked(self):
        cache = holding(ok(TEXT, LASTS, MARK))
        step = cache.ask(get(("range", "4-5"), CHECK), 2)
        told = cache.answer(step[2], part(TEXT, "4-5", MARK), 3)
        self.assertEqual(plain(told), ("tell", "part", [LASTS, MARK, ("part", "4-5/26"), ("age", "0")], "ef"))
        self.assertEqual(cache.listed(3), [("/a", (), 0, 5, True)])

    def test_not_stored_and_asked_anew(self):
        for fields, keep in (([LASTS], ""), ([LASTS, ("mark", 'w"v1"')], ""), ([MARK, ("keep", "never")], ""),
                             ([MARK, ("varies", "*")], ""), ([LASTS, MARK, MARK], ""), ([LASTS, MARK], "never"),
                             ([LASTS, MARK, ("keep", "own")], "")):
            cache = holding(part(TEXT, "0-3", LASTS, MARK))
            step = cache.ask(get(("keep", keep), ("range", "2-9")), 1)
            anew = cache.answer(step[2], part(TEXT, "4-9", *fields), 3)
            self.assertEqual(plain(anew), ("up", [("keep", keep)]))
            self.assertEqual(cache.listed(3), [("/a", (), 3, 5, False)])
            self.assertEqual(cache.ask(get(("range", "4-4")), 1)[0], "up")

    def test_not_stored_and_passed_on(self):
        for fields, keep in (([LASTS], ""), ([LASTS, ("mark", 'w"v1"')], ""), ([MARK, ("keep", "never")], ""),
                             ([MARK, ("varies", "*")], ""), ([LASTS, MARK], "never")):
            cache = Cache(Make())
            step = bring(cache, part(TEXT, "4-9", *fields), get(("keep", keep), ("range", "4-9")))
            self.assertEqual((step[0], step[1].status, cache.many), ("tell", "part", 0))

    def test_stained(self):
        cache = holding(part(TEXT, "0-3", LASTS, MARK))
        fill = cache.ask(get(), 1)
        other = cache.ask(get(("range", "9-")), 1)
        cache.drop("/a")
        self.assertEqual(plain(cache.answer(fill[2], part(TEXT, "4-", LASTS, MARK), 1)), ("up", []))
        self.assertEqual(plain(cache.answer(other[2], part(TEXT, "9-", LASTS, MARK), 1)), ("up", []))
        self.assertEqual(cache.many, 0)

    def test_another_version(self):
        cache = holding(part(TEXT, "0-3", LASTS, MARK))
        step = cache.ask(get(), 1)
        new = TEXT.upper()
        anew = cache.answer(step[2], part(new, "4-", LASTS, ("mark", '"v2"')), 3)
        self.assertEqual(plain(anew), ("up", []))
        self.assertEqual(cache.ask(get(("range", "4-")), 3)[1].body, new[4:])
        self.assertEqual(cache.ask(get(("range", "0-3")), 3)[0], "up")

    def test_another_key(self):
        # The answer is stored beside the one that was filled, and the request is told from it if it suffices.
        cache = holding(part(TEXT, "0-3", LASTS, MARK))
        step = cache.ask(get(("want-form", "a"), ("range", "2-9")), 1)
        told = cache.answer(step[2], part(TEXT, "0-9", LASTS, MARK, ("varies", "want-form")), 3)
        self.assertEqual((told[0], told[1].body), ("tell", TEXT[2:10]))
        self.assertEqual(cache.many, 2)


class RefreshingTest(unittest.TestCase):
    def refreshed(self, response, held=None, make=None, now=9):
        """What is told after a check of a kept answer was answered by `same`."""
        cache = holding(held, make)
        step = cache.ask(get(CHECK), 6)
        return (cache, cache.answer(step[2], response, now)[1])

    def test_fields(self):
        held = ok(TEXT, ("a", "1"), MARK, ("b", "2"), ("a", "3"), ("c", "4"))
        news = [("d", "5"), ("a", "6"), ("part", "x"), ("age", "1"), ("b", ""), ("parts", "y"), ("a", "7")]
        fields = [MARK, ("c", "4"), ("d", "5"), ("a", "6"), ("b", ""), ("a", "7"), ("age", "1")]
        self.assertEqual(self.refreshed(Response("same", news), held)[1].fields, fields)

    def test_without_fields(self):
        self.assertEqual(self.refreshed(Response("same"))[1].fields, [LASTS, MARK, ("age", "0")])

    def test_varies_is_ignored(self):
        held = ok(TEXT, MARK, ("varies", "x"), LASTS)
        for value in ("*", "y", ""):
            cache, told = self.refreshed(Response("same", [("varies", value)]), held)
            self.assertEqual(told.fields, [MARK, ("varies", "x"), LASTS, ("age", "0")])
            self.assertEqual(cache.listed(9)[0][1], (("x", None),))
        cache, told = self.refreshed(Response("same", [("varies", "y")]))
        self.assertEqual((told.fields, cache.listed(9)[0][1]), ([LASTS, MARK, ("age", "0")], ()))

    def test_initial_age(self):
        held = ok(TEXT, LASTS, MARK, ("date", "0"), ("age", "3"))
        for fields, plain_age, dated in (([], 0, 0), ([("date", "7")], 0, 2), ([("date", "x")], 0, 0),
                                         ([("age", "1"), ("date", "7")], 1, 2), ([("age", "4"), ("date", "7")], 4, 4)):
            for make, age in ((Make(), plain_age), (Make(dates=True), dated)):
                cache, told = self.refreshed(Response("same", fields), held, make)
                self.assertEqual(told.value("age"), str(age))
                self.assertEqual(cache.listed(10)[0][2], age + 1)

    def test_lifetime_of_the_fields_kept(self):
        # The old date stays a field, so the lifetime may still come from it.
        held = ok(TEXT, MARK, ("date", "100"), ("changed", "40"))
        make = Make(share=10, cap=99)
        self.assertEqual(self.refreshed(Response("same"), held, make)[0].listed(9)[0][3], 6)
        for fields, lifetime in (([("date", "120")], 8), ([("changed", "90")], 1), ([("keep", "lasts=3")], 3)):
            self.assertEqual(self.refreshed(Response("same", fields), held, make)[0].listed(9)[0][3], lifetime)

    def test_mark_and_content(self):
        cache, told = self.refreshed(Response("same", [("mark", '"v2"')]))
        self.assertEqual((told.body, told.value("mark")), (TEXT, '"v2"'))
        step = cache.ask(get(CHECK), 9)
        self.assertEqual(step[1].value("if-no-mark"), '"v2"')

    def test_parts_are_joined_by_the_new_mark(self):
        held = part(TEXT, "0-3", LASTS, MARK)
        for mark, wanted in (('"v2"', True), ('"v1"', False)):
            cache = holding(held)
            check = cache.ask(get(("range", "0-1"), CHECK), 6)
            cache.answer(check[2], Response("same", [("mark", '"v2"')]), 6)
            fill = cache.ask(get(), 6)
            self.assertEqual(fill[1].value("if-part"), '"v2"')
            told = cache.answer(fill[2], part(TEXT, "4-", LASTS, ("mark", mark)), 6)
            self.assertEqual(told[0] == "tell", wanted)

    def test_stays_kept_whatever_the_directives_are(self):
        for keep in ("never", "own", "check"):
            cache = self.refreshed(Response("same", [("keep", keep)]))[0]
            self.assertEqual(cache.many, 1)
        cache = holding()
        step = cache.ask(get(("keep", "check, never")), 6)
        self.assertEqual(cache.answer(step[2], Response("same"), 6)[1].body, TEXT)
        self.assertEqual(cache.many, 1)


class OrdersTest(unittest.TestCase):
    def test_tickets_in_any_order(self):
        answers = {"same": Response("same", [("age", "1")]), "new": ok("new", LASTS, MARK), "lost": LOST,
                   "part": part(TEXT, "0-1", LASTS, MARK)}
        for order in itertools.permutations(answers):
            cache = holding()
            tickets = {name: cache.ask(get(CHECK), 1)[2] for name in answers}
            replaced = False
            for name in order:
                told = plain(cache.answer(tickets[name], answers[name], 1))
                if name == "new":
                    self.assertEqual(told[3], "new")
                    replaced = True
                elif name == "lost":
                    self.assertEqual(told, ERROR)
                elif name == "same":
                    self.assertEqual(told[0], "up" if replaced else "tell")
                elif replaced:
                    # The part does not fit the new content, so it takes its place and does not suffice.
                    self.assertEqual(told, ("up", [CHECK]))
                    self.assertEqual(cache.listed(1)[0][4], False)
                else:
                    self.assertEqual(told[3], TEXT)

    def test_many_open_tickets(self):
        cache = Cache(Make(room=100))
        tickets = [cache.ask(get(path=f"/{at}"), 0)[2] for at in range(50)]
        for at in reversed(range(50)):
            self.assertEqual(cache.answer(tickets[at], ok(str(at), LASTS), 0)[1].body, str(at))
        self.assertEqual((cache.open_tickets, cache.many), ([], 50))
