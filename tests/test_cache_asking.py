"""[45] to [49]: what a cache does with requests from below."""

import unittest

from hopkeep.cache import Cache
from hopkeep.makes import Make, OwnMake
from hopkeep.messages import Request, Response
from tests.helpers import bare, bring, get, ok, part

TEXT = "abcdefghijklmnopqrstuvwxyz"
LASTS = ("keep", "lasts=5")
MARK = ("mark", '"v1"')
OWN_FIELDS = [("if-no-mark", '"v9"'), ("x", "1"), ("if-changed", "1"), ("range", "0-1"), ("if-part", '"v9"')]


def holding(response, *fields, make=None, now=0):
    """A cache that has just kept the answer to a get with these fields."""
    cache = Cache(Make() if make is None else make)
    bring(cache, response, get(*fields), now)
    return cache


def asked(cache, *fields, now=0):
    """The step for a get; a passed request by its fields, a response as its status, fields and body."""
    step = cache.ask(get(*fields), now)
    return (step[0], step[1].fields) if step[0] == "up" else (step[0], *bare(step[1]))


def gaps(count):
    """A range field that leaves so many gaps in the first 2 * count characters."""
    return ", ".join([*[f"{2 * at + 1}-{2 * at + 1}" for at in range(count - 1)], f"{2 * count - 1}-"])


class ExampleTest(unittest.TestCase):
    def test_example(self):
        cache = Cache(Make())
        first = cache.ask(Request.fetch("/a"), 10)
        second = cache.answer(first[2], Response("ok", [("keep", "lasts=5"), ("age", "1")], "x"), 12)
        third = cache.ask(Request.fetch("/a"), 15)
        self.assertEqual([first[0], second[0], third[0], third[1].fields, cache.listed(15)],
                         ["up", "tell", "tell", [("keep", "lasts=5"), ("age", "4")], [("/a", (), 4, 5, True)]])


class StepsTest(unittest.TestCase):
    def test_empty_at_first(self):
        make = Make()
        cache = Cache(make)
        self.assertIs(cache.make, make)
        self.assertEqual((cache.many, cache.open_tickets, cache.listed(0), "/a" in cache), (0, [], [], False))

    def test_tickets_count_from_one(self):
        cache = Cache(Make())
        requests = [get(), Request("put", "/a", body="x"), get(("if-mark", "*")), get(path="/b"), get()]
        self.assertEqual([cache.ask(request, 0)[2] for request in requests], [1, 2, 3, 4, 5])
        self.assertEqual(cache.open_tickets, [1, 2, 3, 4, 5])

    def test_steps_are_tuples(self):
        cache = Cache(Make())
        up = cache.ask(get(), 0)
        self.assertEqual((type(up), len(up), up[0], type(up[2])), (tuple, 3, "up", int))
        tell = cache.answer(1, ok("x"), 0)
        self.assertEqual((type(tell), len(tell), tell[0]), (tuple, 2, "tell"))


class WritesAndBindingTest(unittest.TestCase):
    def test_writes_are_passed_on_unchanged(self):
        for fields in ([], OWN_FIELDS, [("keep", "kept")]):
            for request in (Request("put", "/a", fields, "new"), Request("delete", "/a", fields)):
                cache = holding(ok(TEXT, LASTS))
                step = cache.ask(request, 0)
                self.assertEqual(step, ("up", request, 2))
                self.assertEqual(cache.many, 1)

    def test_binding_gets_are_passed_on_unchanged(self):
        for field in (("if-mark", '"v1"'), ("if-mark", "bad"), ("if-unchanged", "5")):
            for more in ([], [("keep", "kept")], OWN_FIELDS):
                cache = holding(ok(TEXT, LASTS, MARK))
                request = get(field, *more)
                self.assertEqual(cache.ask(request, 0), ("up", request, 2))

    def test_binding_answers_are_not_kept(self):
        cache = Cache(Make())
        bring(cache, ok("x", LASTS), get(("if-mark", '"v1"')))
        self.assertEqual(cache.many, 0)
        cache = holding(ok("x", LASTS))
        bring(cache, ok("y", LASTS), get(("if-mark", '"v1"')))
        self.assertEqual(asked(cache)[3], "x")

    def test_ignored_conditions_do_not_bind(self):
        cache = holding(ok(TEXT, LASTS))
        self.assertEqual(asked(cache, ("if-unchanged", "x"))[:2], ("tell", "ok"))


class NothingKeptTest(unittest.TestCase):
    def test_passed_on_unchanged(self):
        request = get(*OWN_FIELDS, ("keep", "check, age=0"))
        cache = Cache(Make())
        self.assertEqual(cache.ask(request, 0), ("up", request, 1))

    def test_kept(self):
        cache = Cache(Make())
        self.assertEqual(asked(cache, ("keep", "kept")), ("tell", "unkept", [], ""))
        self.assertEqual(asked(cache, ("keep", "kept, check")), ("tell", "unkept", [], ""))
        self.assertEqual(cache.open_tickets, [])

    def test_other_path_or_key(self):
        cache = holding(ok("x", LASTS, ("varies", "want-form, x")), ("x", "1"))
        self.assertEqual(asked(cache, ("x", "1"))[0], "tell")
        for fields in ((), (("x", ""),), (("x", "2"),), (("x", "1"), ("want-form", "a"))):
            self.assertEqual(asked(cache, *fields), ("up", list(fields)))
            self.assertEqual(asked(cache, ("keep", "kept"), *fields), ("tell", "unkept", [], ""))
        self.assertEqual(cache.ask(get(("x", "1"), path="/b"), 0)[0], "up")

    def test_keys_are_normal_forms(self):
        cache = holding(ok("x", LASTS, ("varies", "want-form, x")), ("want-form", "b;2, a"), ("x", "1,2"))
        self.assertEqual(asked(cache, ("x", "1 , 2"), ("want-form", "a"), ("want-form", "!, b;2"))[0], "tell")


class FreshTest(unittest.TestCase):
    def test_told_from_the_kept_answer(self):
        cache = holding(ok(TEXT, ("b", "2"), ("age", "1"), LASTS, ("part", "x"), ("parts", "y"), ("b", "1")), now=10)
        fields = [("b", "2"), LASTS, ("b", "1")]
        for now, age in ((10, "1"), (12, "3"), (13, "4"), (11, "2"), (5, "1")):
            self.assertEqual(asked(cache, now=now), ("tell", "ok", [*fields, ("age", age)], TEXT))
        self.assertEqual(cache.open_tickets, [])

    def test_limits(self):
        for make, last in ((Make(), 4), (Make(grace=2), 6), (OwnMake(), 4)):
            cache = holding(ok(TEXT, LASTS), make=make)
            self.assertEqual([asked(cache, now=now)[0] for now in (0, last, last + 1)], ["tell", "tell", "up"])

    def test_late(self):
        cache = holding(ok(TEXT, LASTS))
        self.assertEqual(asked(cache, ("keep", "late=2"), now=6), ("tell", "ok", [LASTS, ("age", "6")], TEXT))
        self.assertEqual(asked(cache, ("keep", "late=2"), now=7)[0], "up")
        self.assertEqual(asked(cache, ("keep", "late"), now=900)[0], "tell")

    def test_kept(self):
        cache = holding(ok(TEXT, LASTS))
        self.assertEqual(asked(cache, ("keep", "kept"), now=4), ("tell", "ok", [LASTS, ("age", "4")], TEXT))
        self.assertEqual(asked(cache, ("keep", "kept"), now=5), ("tell", "unkept", [], ""))
        self.assertEqual(asked(cache, ("keep", "kept, late=1"), now=5)[:2], ("tell", "ok"))

    def test_ages_that_are_not_told(self):
        cache = holding(ok(TEXT, LASTS, ("age", "2")), make=Make(tells=False))
        self.assertEqual(asked(cache, now=1), ("tell", "ok", [LASTS], TEXT))
        self.assertEqual(asked(cache, ("range", "0-0"), now=1), ("tell", "part", [LASTS, ("part", "0-0/26")], "a"))
        self.assertEqual(asked(cache, now=3)[0], "up")

    def test_dates(self):
        dated = ok(TEXT, LASTS, ("date", "7"), ("age", "1"))
        fields = [LASTS, ("date", "7")]
        for make, age in ((Make(), "1"), (Make(dates=True), "3")):
            cache = holding(dated, make=make, now=10)
            self.assertEqual(asked(cache, now=10), ("tell", "ok", [*fields, ("age", age)], TEXT))

    def test_share_of_the_time(self):
        make = Make(share=10, cap=6)
        for fields, lifetime in (([("date", "90"), ("changed", "40")], 5), ([("date", "90"), ("changed", "0")], 6),
                                 ([("date", "90")], 0), ([("changed", "40")], 0),
                                 ([("date", "90"), ("changed", "40"), ("changed", "40")], 0),
                                 ([("date", "90"), ("changed", "-0")], 0),
                                 ([("date", "90"), ("date", ""), ("changed", "1")], 0),
                                 ([("date", "90"), ("changed", "40"), ("keep", "lasts=2")], 2)):
            cache = holding(ok(TEXT, *fields), make=make, now=3)
            self.assertEqual(cache.listed(3), [("/a", (), 0, lifetime, True)])


class CheckTest(unittest.TestCase):
    def test_conditions(self):
        for fields, more in (([MARK], [("if-no-mark", '"v1"')]), ([("mark", 'w"v1"')], [("if-no-mark", 'w"v1"')]),
                             ([("changed", "-3")], [("if-changed", "-3")]), ([], []),
                             ([MARK, ("changed", "5")], [("if-no-mark", '"v1"')]),
                             ([MARK, MARK], []), ([("mark", "v1")], []), ([("changed", "5"), ("changed", "6")], []),
                             ([("mark", "v1"), ("changed", "5")], [("if-changed", "5")])):
            cache = holding(ok(TEXT, LASTS, *fields))
            self.assertEqual(asked(cache, *OWN_FIELDS, now=5), ("up", [("x", "1"), *more]))
            cache = holding(ok(TEXT, LASTS, *fields), make=Make(checks=False))
            self.assertEqual(asked(cache, *OWN_FIELDS, now=5), ("up", [("x", "1")]))

    def test_kept(self):
        cache = holding(ok(TEXT, LASTS))
        for keep in ("kept, check", "kept, age=1", "kept, fresh=3"):
            self.assertEqual(asked(cache, ("keep", keep), now=2), ("tell", "unkept", [], ""))

    def test_wishes(self):
        cache = holding(ok(TEXT, LASTS, MARK))
        for keep, told in (("check", False), ("age=1", False), ("age=2", True), ("fresh=2", True), ("fresh=3", False)):
            self.assertEqual(asked(cache, ("keep", keep), now=2)[0] == "tell", told, keep)

    def test_answers_with_check(self):
        cache = holding(ok(TEXT, MARK, ("keep", "lasts=5, check")))
        self.assertEqual(asked(cache), ("up", [("if-no-mark", '"v1"')]))
        self.assertEqual(cache.many, 1)


class TellingTest(unittest.TestCase):
    FIELDS = [LASTS, MARK, ("changed", "7")]

    def told(self, *fields, response=None):
        cache = holding(ok(TEXT, *self.FIELDS) if response is None else response)
        step, status, own, body = asked(cache, *fields, now=2)
        self.assertEqual((step, own[:3], own[-1]), ("tell", self.FIELDS, ("age", "2")))
        return (status, own[3:-1], body)

    def test_same(self):
        for field in (("if-no-mark", '"v0", "v1"'), ("if-no-mark", "*"), ("if-changed", "7"), ("if-changed", "8")):
            self.assertEqual(self.told(field, ("range", "0-1")), ("same", [], ""))
        for field in (("if-no-mark", '"v2"'), ("if-changed", "6"), ("if-changed", "x")):
            self.assertEqual(self.told(field), ("ok", [], TEXT))

    def test_ranges(self):
        for text, answer in (("0-1", ("part", [("part", "0-1/26")], "ab")),
                             ("24-99", ("part", [("part", "24-25/26")], "yz")),
                             ("0-1, 1-2, -1", ("part", [("parts", "2")], "part 0-2/26\nabc\npart 25-25/26\nz\n")),
                             ("26-", ("norange", [("part", "*/26")], "")), ("x", ("ok", [], TEXT)),
                             ("", ("ok", [], TEXT)), ("3-2", ("ok", [], TEXT))):
            self.assertEqual(self.told(("range", text)), answer)

    def test_parts_that_do_not_apply(self):
        for text, applies in (('"v1"', True), ('w"v1"', False), ('"v2"', False), ("7", True), ("8", False),
                              ("x", False)):
            answer = ("part", [("part", "1-2/26")], "bc") if applies else ("ok", [], TEXT)
            self.assertEqual(self.told(("range", "1-2"), ("if-part", text)), answer)

    def test_ranges_without_a_mark(self):
        cache = holding(ok(TEXT, LASTS))
        self.assertEqual(asked(cache, ("range", "1-2"))[1:], ("part", [LASTS, ("part", "1-2/26"), ("age", "0")], "bc"))
        self.assertEqual(asked(cache, ("range", "1-2"), ("if-part", '"v1"'))[1], "ok")


class GapsTest(unittest.TestCase):
    """A kept answer of which the positions 3 to 5 and 10 to 25 are kept."""

    def cache(self, *fields, make=None, text="3-5, 10-25"):
        return holding(part(TEXT, text, LASTS, MARK, *fields), ("range", text), make=make)

    def test_told_if_possible(self):
        told = [LASTS, MARK]
        for text, more, body in (("3-5", [("part", "3-5/26")], "def"), ("4-4", [("part", "4-4/26")], "e"),
                                 ("-2", [("part", "24-25/26")], "yz"), ("10-", [("part", "10-25/26")], TEXT[10:]),
                                 ("3-3, 5-5", [("parts", "2")], "part 3-3/26\nd\npart 5-5/26\nf\n")):
            self.assertEqual(asked(self.cache(), ("range", text), now=1),
                             ("tell", "part", [*told, *more, ("age", "1")], body))
        self.assertEqual(asked(self.cache(), ("range", "26-")),
                         ("tell", "norange", [*told, ("part", "*/26"), ("age", "0")], ""))
        self.assertEqual(asked(self.cache(), ("if-no-mark", '"v1"')), ("tell", "same", [*told, ("age", "0")], ""))

    def test_filled(self):
        for fields, text in (([], "0-2, 6-9"), ([("range", "2-6")], "2-2, 6-6"), ([("range", "x")], "0-2, 6-9"),
                             ([("range", "8-")], "8-9"), ([("range", "0-0, 3-4, 7-8")], "0-0, 7-8"),
                             ([("range", "4-4"), ("if-part", '"v2"')], "0-2, 6-9"),
                             ([("range", "2-6"), ("if-part", '"v1"')], "2-2, 6-6"),
                             ([("if-no-mark", '"v2"')], "0-2, 6-9")):
            self.assertEqual(asked(self.cache(), ("x", "1"), *fields, ("y", "2"), now=4),
                             ("up", [("x", "1"), ("y", "2"), ("range", text), ("if-part", '"v1"')]))

    def test_kept(self):
        cache = self.cache()
        self.assertEqual(asked(cache, ("keep", "kept")), ("tell", "unkept", [], ""))
        self.assertEqual(asked(cache, ("keep", "kept"), ("range", "4-4"))[:2], ("tell", "part"))
        self.assertEqual(asked(cache, ("keep", "kept"), ("range", "2-4")), ("tell", "unkept", [], ""))
        self.assertEqual(cache.open_tickets, [])

    def test_ten_pairs_and_eleven(self):
        ten = self.cache(text=gaps(10))
        self.assertEqual(asked(ten), ("up", [("range", ", ".join(f"{at}-{at}" for at in range(0, 20, 2))),
                                             ("if-part", '"v1"')]))
        eleven = self.cache(text=gaps(11))
        self.assertEqual(asked(eleven, ("x", "1"), ("range", "0-")), ("up", [("x", "1")]))
        self.assertEqual(asked(eleven, ("range", "0-18"))[1][0][1].count(","), 9)

    def test_no_mark(self):
        cache = self.cache()
        # A refreshed answer may have lost its mark, as two marks are none.
        step = cache.ask(get(("keep", "check")), 0)
        cache.answer(step[2], Response("same", [("mark", "x"), LASTS]), 0)
        self.assertEqual(asked(cache, ("range", "0-2"), ("x", "1")), ("up", [("x", "1")]))

    def test_weak_mark(self):
        cache = self.cache()
        step = cache.ask(get(("keep", "check")), 0)
        cache.answer(step[2], Response("same", [("mark", 'w"v1"'), LASTS]), 0)
        self.assertEqual(asked(cache, ("range", "0-2")), ("up", [("range", "0-2"), ("if-part", 'w"v1"')]))

    def test_late_answers_are_filled_too(self):
        cache = self.cache(make=Make(grace=2))
        self.assertEqual(asked(cache, now=6), ("up", [("range", "0-2, 6-9"), ("if-part", '"v1"')]))
        self.assertEqual(asked(cache, now=7), ("up", [("if-no-mark", '"v1"')]))


class SelectingTest(unittest.TestCase):
    VARIES = ("varies", "want-form")

    def cache(self):
        cache = Cache(Make(grace=9))
        bring(cache, ok("page", LASTS, self.VARIES, MARK), get(("want-form", "page")))
        bring(cache, ok("text", LASTS, self.VARIES, ("mark", '"v2"')), get(("want-form", "text")))
        return cache

    def test_side_by_side(self):
        cache = self.cache()
        for form in ("page", "text"):
            self.assertEqual(asked(cache, ("want-form", form))[3], form)
        self.assertEqual(asked(cache)[0], "up")

    def test_last_one_stored(self):
        cache = self.cache()
        # This answer has other names, so it is kept beside the others; its key is that of every request.
        step = cache.ask(get(("want-form", "other")), 0)
        cache.answer(step[2], ok("all", LASTS), 0)
        self.assertEqual(cache.many, 3)
        for form in ("page", "text", "other"):
            self.assertEqual(asked(cache, ("want-form", form))[3], "all")

    def test_last_one_refreshed(self):
        cache = self.cache()
        check = cache.ask(get(("want-form", "page"), ("keep", "check")), 1)
        bring(cache, ok("all", LASTS), get(("want-form", "other")), 2)
        self.assertEqual(asked(cache, ("want-form", "page"), now=2)[3], "all")
        cache.answer(check[2], Response("same"), 3)
        self.assertEqual(asked(cache, ("want-form", "page"), now=3)[3], "page")
        self.assertEqual(asked(cache, ("want-form", "text"), now=3)[3], "all")
        self.assertEqual([row[1] for row in cache.listed(3)],
                         [(("want-form", (("text", 1000),)),), (), (("want-form", (("page", 1000),)),)])

    def test_use_of_the_selected_one_decides(self):
        cache = self.cache()
        bring(cache, ok("all", ("keep", "lasts=0, strict")), get(("want-form", "other")))
        self.assertEqual(asked(cache, ("want-form", "page"))[0], "up")
