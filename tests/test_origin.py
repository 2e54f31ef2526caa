"""[55], [56], [57]: the origin."""

import unittest

from hopkeep.errors import InvalidValue, NothingThere
from hopkeep.kinds import Kind
from hopkeep.messages import Request, Response
from hopkeep.origin import Origin
from hopkeep.variants import Variant
from tests.helpers import bare, caught, get

KEEP = ("keep", "lasts=5")
TEXT = "abcdefghij"


def single(text):
    return [Variant("plain", "any", "none", text)]


def holding(text=TEXT, now=0, **settings):
    """An origin with one content at /a."""
    origin = Origin(Kind(settings.pop("lasts", 5), **settings))
    origin.place("/a", single(text), now)
    return origin


def mark(origin, path="/a", *fields):
    return origin.answer(get(*fields, path=path), 0).value("mark")


def put(body, *fields, path="/a"):
    return Request("put", path, fields, body)


def delete(*fields, path="/a"):
    return Request("delete", path, fields)


class HoldingTest(unittest.TestCase):
    def test_kind_and_paths(self):
        kind = Kind(5)
        origin = Origin(kind)
        self.assertIs(origin.kind, kind)
        self.assertEqual(origin.paths, [])
        for path in ("/b", "/", "/a/c", "/a"):
            self.assertIsNone(origin.place(path, single("x"), 0))
        self.assertEqual(origin.paths, ["/", "/a", "/a/c", "/b"])
        origin.paths.clear()
        origin.erase("/a")
        self.assertEqual(origin.paths, ["/", "/a/c", "/b"])

    def test_place_errors(self):
        origin = Origin(Kind(5))
        for path in ("", "a", "/A", "/" + "a" * 60, "/a b"):
            self.assertEqual(caught(InvalidValue, origin.place, path, single("x"), 0).name, "path")
            self.assertEqual(caught(InvalidValue, origin.place, path, [], 0).name, "path")
        self.assertEqual(caught(InvalidValue, origin.place, "/a", [], 0).name, "variants")
        self.assertEqual(origin.paths, [])

    def test_nothing_there(self):
        origin = holding()
        for path in ("/b", "a", "", "/B"):
            self.assertEqual(caught(NothingThere, origin.change, path, "x", 0).path, path)
            self.assertEqual(caught(NothingThere, origin.change, path, "x", 0, alike=True).path, path)
            self.assertEqual(caught(NothingThere, origin.erase, path).path, path)
        origin.erase("/a")
        self.assertEqual(caught(NothingThere, origin.change, "/a", "x", 0).path, "/a")
        self.assertEqual(caught(NothingThere, origin.erase, "/a").path, "/a")
        origin.place("/a", single("x"), 0)
        self.assertEqual(mark(origin), '"v2.0"')

    def test_variants_are_copied(self):
        origin = Origin(Kind(5))
        given = single("x")
        origin.place("/a", given, 0)
        given.append(Variant("text", "en", "none", "y", weight=9))
        origin.change("/a", "z", 0)
        self.assertEqual(origin.answer(get(("want-form", "text")), 0).status, "missing")
        self.assertEqual(given[0].content, "x")

    def test_change_keeps_the_rest(self):
        origin = Origin(Kind(5))
        origin.place("/a", [Variant("text", "en", "zip", "x", weight=7), Variant("page", "fr", "none", "y", weight=3)],
                     0)
        origin.change("/a", "z", 0)
        for fields, body in (((), "z"), ((("want-form", "text"), ("want-tongue", "en"), ("want-coding", "zip")), "z"),
                             ((("want-form", "text;2, page;5"),), "y"), ((("want-form", "text;3, page;7"),), "z"),
                             ((("want-tongue", "fr"),), "y")):
            self.assertEqual(origin.answer(get(*fields), 0).body, body)


class VersionsTest(unittest.TestCase):
    def marks(self, kind):
        """The marks after each of several changes."""
        origin = Origin(Kind(5, mark=kind))
        found = []
        for call in (lambda: origin.place("/a", single("x"), 0), lambda: origin.change("/a", "y", 0),
                     lambda: origin.change("/a", "y", 0, alike=True), lambda: origin.answer(put("z"), 0),
                     lambda: origin.answer(put("z", ("if-no-mark", "*")), 0),
                     lambda: origin.place("/b", single("x"), 0), lambda: origin.change("/a", "y", 0, alike=True),
                     lambda: origin.place("/a", single("x"), 0)):
            call()
            found.append(mark(origin))
        return found

    def test_strong_marks(self):
        self.assertEqual(self.marks("strong"), [f'"v{at}.0"' for at in (1, 2, 3, 4, 4, 4, 5, 6)])

    def test_weak_marks(self):
        self.assertEqual(self.marks("weak"), [f'w"e{at}.0"' for at in (1, 2, 2, 3, 3, 3, 3, 4)])

    def test_no_marks(self):
        self.assertEqual(self.marks("none"), [None] * 8)

    def test_removing_changes_no_number(self):
        origin = holding()
        origin.erase("/a")
        origin.answer(put("x"), 0)
        self.assertEqual(mark(origin), '"v2.0"')
        origin.answer(delete(), 0)
        origin.place("/a", single("y"), 0)
        self.assertEqual(mark(origin), '"v3.0"')

    def test_marks_of_variants(self):
        variants = [Variant(form, "en", "none", form) for form in ("a", "b", "c")]
        for kind, form in (("strong", '"v1.{}"'), ("weak", 'w"e1.{}"')):
            origin = Origin(Kind(5, mark=kind))
            origin.place("/a", variants, 0)
            for index, word in enumerate("abc"):
                self.assertEqual(mark(origin, "/a", ("want-form", word)), form.format(index))

    def test_paths_have_numbers_of_their_own(self):
        origin = holding()
        origin.change("/a", "x", 0)
        origin.place("/b", single("x"), 0)
        self.assertEqual((mark(origin), mark(origin, "/b")), ('"v2.0"', '"v1.0"'))


class GetTest(unittest.TestCase):
    def test_ok(self):
        self.assertEqual(bare(holding().answer(get(), 7)), ("ok", [("date", "7"), ("mark", '"v1.0"'), KEEP], TEXT))
        self.assertEqual(bare(holding().answer(get(), -7))[1][0], ("date", "-7"))
        weak = holding(mark="weak", lasts=None).answer(get(), 0)
        self.assertEqual(bare(weak), ("ok", [("date", "0"), ("mark", 'w"e1.0"')], TEXT))
        self.assertEqual(bare(holding(mark="none", strict=True).answer(get(), 0)),
                         ("ok", [("date", "0"), ("keep", "lasts=5, strict")], TEXT))
        self.assertEqual(holding("").answer(get(), 0).body, "")

    def test_missing(self):
        missing = ("missing", [("date", "3")], "")
        for fields in ((), (("if-mark", "*"),), (("range", "0-1"),)):
            self.assertEqual(bare(holding().answer(get(*fields, path="/b"), 3)), missing)
        origin = holding()
        self.assertEqual(bare(origin.answer(get(("want-form", "text")), 3)), missing)
        self.assertEqual(bare(origin.answer(get(("want-form", "text"), ("if-mark", '"v9"')), 3)), missing)
        origin.erase("/a")
        self.assertEqual(bare(origin.answer(get(), 3)), missing)

    def test_conditions(self):
        told = [("date", "3"), ("mark", '"v1.0"'), KEEP]
        for fields, status in (([("if-mark", '"v1.0"')], "ok"), ([("if-mark", '"v2.0"')], "failed"),
                               ([("if-no-mark", '"v1.0"')], "same"),
                               ([("if-no-mark", 'w"v1.0"'), ("range", "0-1")], "same"),
                               ([("if-no-mark", '"v2.0"')], "ok"), ([("if-mark", "*"), ("if-no-mark", "*")], "same")):
            answer = bare(holding().answer(get(*fields), 3))
            self.assertEqual(answer[0], status)
            self.assertEqual(answer[1], told[:1] if status == "failed" else told)
            self.assertEqual(answer[2], TEXT if status == "ok" else "")

    def test_ranges(self):
        told = [("date", "3"), ("mark", '"v1.0"'), KEEP]
        for text, status, more, body in (("0-1", "part", [("part", "0-1/10")], "ab"), ("x", "ok", [], TEXT),
                                         ("0-0, -1", "part", [("parts", "2")], "part 0-0/10\na\npart 9-9/10\nj\n"),
                                         ("0-0,1-1", "part", [("part", "0-1/10")], "ab"),
                                         ("10-", "norange", [("part", "*/10")], ""),
                                         ("0-", "part", [("part", "0-9/10")], TEXT)):
            self.assertEqual(bare(holding().answer(get(("range", text)), 3)), (status, told + more, body))

    def test_ranges_that_do_not_apply(self):
        for text, status in (('"v1.0"', "part"), ('"v2.0"', "ok"), ("0", "ok"), ("x", "ok")):
            self.assertEqual(holding().answer(get(("range", "0-1"), ("if-part", text)), 0).status, status)
        self.assertEqual(holding(mark="weak").answer(get(("range", "0-1"), ("if-part", 'w"e1.0"')), 0).status, "ok")
        dated = holding(dated=True)
        self.assertEqual(dated.answer(get(("range", "0-1"), ("if-part", "0")), 0).status, "part")
        self.assertEqual(dated.answer(get(("range", "0-1"), ("if-part", "1")), 0).status, "ok")

    def test_variants(self):
        origin = Origin(Kind(5))
        origin.place("/a", [Variant("text", "en", "none", "T"), Variant("page", "en", "none", "P", weight=900)], 0)
        varies = ("varies", "want-coding, want-form, want-tongue")
        for fields, index, body in (((), 0, "T"), ((("want-form", "page"),), 1, "P"),
                                    ((("want-form", "*;9"),), 0, "T"), ((("want-form", "text;8, *;9"),), 1, "P")):
            self.assertEqual(bare(origin.answer(get(*fields), 0)),
                             ("ok", [("date", "0"), ("mark", f'"v1.{index}"'), KEEP, varies], body))
        part = origin.answer(get(("range", "0-0"), ("want-form", "page")), 0)
        self.assertEqual(part.fields[-2:], [varies, ("part", "0-0/1")])
        same = origin.answer(get(("if-no-mark", '"v1.1"'), ("want-form", "page")), 0)
        self.assertEqual((same.status, same.fields[-1]), ("same", varies))
        self.assertEqual(origin.answer(get(("if-no-mark", '"v1.1"')), 0).status, "ok")


class DatedTest(unittest.TestCase):
    def test_told_when_settled(self):
        for margin in (0, 1, 3):
            origin = holding(now=10, dated=True, margin=margin)
            for now in range(7, 16):
                fields = [("changed", "10")] if now - 10 >= margin else []
                self.assertEqual(origin.answer(get(), now).fields,
                                 [("date", str(now)), ("mark", '"v1.0"'), *fields, KEEP])

    def test_other_kinds_tell_nothing(self):
        self.assertIsNone(holding(now=0).answer(get(), 99).value("changed"))

    def test_last_change(self):
        origin = holding(now=-2, dated=True)
        self.assertEqual(origin.answer(get(), 9).value("changed"), "-2")
        origin.change("/a", "x", 3)
        self.assertEqual(origin.answer(get(), 9).value("changed"), "3")
        origin.change("/a", "y", 4, alike=True)
        self.assertEqual(origin.answer(get(), 9).value("changed"), "4")
        origin.answer(put("z"), 5)
        self.assertEqual(origin.answer(get(), 9).value("changed"), "5")
        origin.answer(put("z", ("if-no-mark", "*")), 6)
        self.assertEqual(origin.answer(get(), 9).value("changed"), "5")
        origin.place("/a", single("x"), 2)
        self.assertEqual(origin.answer(get(), 9).value("changed"), "2")

    def test_conditions_with_readings(self):
        for margin, now, known in ((0, 10, True), (2, 11, False), (2, 12, True)):
            origin = holding(now=10, dated=True, margin=margin)
            for field, status in ((("if-changed", "10"), "same"), (("if-changed", "9"), "ok"),
                                  (("if-unchanged", "10"), "ok"), (("if-unchanged", "9"), "failed")):
                self.assertEqual(origin.answer(get(field), now).status, status if known else "ok")
        for field in (("if-changed", "99"), ("if-unchanged", "-99")):
            self.assertEqual(holding(now=10).answer(get(field), 50).status, "ok")


class WritesTest(unittest.TestCase):
    def test_put(self):
        origin = holding()
        self.assertEqual(bare(origin.answer(put("new"), 4)), ("done", [("date", "4")], ""))
        self.assertEqual((origin.answer(get(), 4).body, mark(origin)), ("new", '"v2.0"'))
        self.assertEqual(bare(origin.answer(put("b", path="/b"), 4)), ("done", [("date", "4")], ""))
        self.assertEqual((origin.paths, mark(origin, "/b")), (["/a", "/b"], '"v1.0"'))

    def test_put_leaves_a_single_plain_variant(self):
        origin = Origin(Kind(5))
        origin.place("/a", [Variant("text", "en", "none", "T", weight=1), Variant("page", "en", "none", "P")], 0)
        origin.answer(put("new"), 0)
        answer = origin.answer(get(("want-form", "plain"), ("want-tongue", "any"), ("want-coding", "none")), 0)
        self.assertEqual((answer.body, answer.value("varies"), answer.value("mark")), ("new", None, '"v2.0"'))
        self.assertEqual(origin.answer(get(("want-form", "page")), 0).status, "missing")

    def test_put_conditions(self):
        for field, there, nothing in ((("if-mark", '"v1.0"'), "done", "failed"),
                                      (("if-mark", '"v2.0"'), "failed", "failed"),
                                      (("if-no-mark", '"v1.0"'), "failed", "done"),
                                      (("if-no-mark", "*"), "failed", "done"), (("if-mark", "*"), "done", "failed"),
                                      (("if-unchanged", "9"), "failed", "failed"),
                                      (("if-unchanged", "10"), "done", "failed"),
                                      (("if-changed", "99"), "done", "done")):
            for path, status in (("/a", there), ("/b", nothing)):
                origin = holding(now=10, dated=True)
                self.assertEqual(bare(origin.answer(put("new", field, path=path), 10)), (status, [("date", "10")], ""))
                body = origin.answer(get(path=path), 10).body
                self.assertEqual(body == "new", status == "done")

    def test_delete(self):
        origin = holding()
        self.assertEqual(bare(origin.answer(delete(), 4)), ("done", [("date", "4")], ""))
        self.assertEqual(origin.paths, [])
        for path in ("/a", "/b"):
            self.assertEqual(bare(origin.answer(delete(path=path), 5)), ("missing", [("date", "5")], ""))

    def test_delete_conditions(self):
        for field, there, nothing in ((("if-mark", '"v1.0"'), "done", "failed"),
                                      (("if-mark", '"v2.0"'), "failed", "failed"),
                                      (("if-no-mark", '"v1.0"'), "failed", "missing"),
                                      (("if-no-mark", '"v2.0"'), "done", "missing"),
                                      (("if-unchanged", "9"), "failed", "failed"),
                                      (("if-unchanged", "10"), "done", "failed")):
            for path, status in (("/a", there), ("/b", nothing)):
                origin = holding(now=10, dated=True)
                self.assertEqual(bare(origin.answer(delete(field, path=path), 10)), (status, [("date", "10")], ""))
                self.assertEqual("/a" in origin.paths, status != "done")

    def test_conditions_of_writes_are_those_of_the_first_variant(self):
        variants = [Variant(form, "en", "none", form, weight=weight) for form, weight in (("a", 1), ("b", 9))]
        for text, status in (('"v1.0"', "done"), ('"v1.1"', "failed")):
            for request in (put("x", ("if-mark", text), ("want-form", "b")),
                            delete(("if-mark", text), ("want-form", "b"))):
                origin = Origin(Kind(5))
                origin.place("/a", variants, 0)
                self.assertEqual(origin.answer(request, 0).status, status)

    def test_unsettled_readings_do_not_fail_writes(self):
        origin = holding(now=10, dated=True, margin=5)
        self.assertEqual(origin.answer(put("x", ("if-unchanged", "0")), 14).status, "done")
        origin = holding(now=10, dated=True, margin=5)
        self.assertEqual(origin.answer(put("x", ("if-unchanged", "0")), 15).status, "failed")

    def test_removed_content_is_not_current(self):
        origin = holding()
        origin.erase("/a")
        self.assertEqual(origin.answer(put("x", ("if-mark", "*")), 0).status, "failed")
        self.assertEqual(origin.answer(put("x", ("if-no-mark", '"v1.0"')), 0).status, "done")


class LatenessTest(unittest.TestCase):
    def test_present_replaced_and_never(self):
        origin = Origin(Kind(5))
        origin.place("/a", single("x"), 0, time=0)
        self.assertEqual(origin.lateness("/a", "x", 9), 0)
        self.assertIsNone(origin.lateness("/a", "y", 9))
        self.assertIsNone(origin.lateness("/b", "x", 9))
        self.assertIsNone(origin.lateness("no path", "x", 9))
        origin.change("/a", "y", 500, time=4)
        self.assertEqual([origin.lateness("/a", text, 9) for text in "xyz"], [5, 0, None])
        self.assertEqual(origin.lateness("/a", "x", 4), 0)
        origin.erase("/a", time=6)
        self.assertEqual([origin.lateness("/a", text, 9) for text in "xyz"], [5, 3, None])

    def test_content_that_came_back(self):
        origin = Origin(Kind(5))
        for text, time in (("x", 0), ("y", 3), ("x", 5), ("z", 8)):
            origin.place("/a", single(text), 0, time=time)
        self.assertEqual([origin.lateness("/a", text, 10) for text in "xyz"], [2, 5, 0])

    def test_content_that_was_there_for_no_tick(self):
        origin = Origin(Kind(5))
        for text in "xyz":
            origin.place("/a", single(text), 0, time=4)
        self.assertEqual([origin.lateness("/a", text, 10) for text in "xyz"], [6, 6, 0])

    def test_variants(self):
        origin = Origin(Kind(5))
        origin.place("/a", [Variant("a", "a", "a", "x"), Variant("b", "b", "b", "y")], 0)
        origin.change("/a", "z", 0, time=3)
        self.assertEqual([origin.lateness("/a", text, 5) for text in "xyz"], [2, 0, 0])
        origin.change("/a", "y", 0, time=4)
        origin.change("/a", "q", 0, time=6)
        self.assertEqual([origin.lateness("/a", text, 7) for text in "xyzq"], [4, 0, 3, 0])

    def test_writes(self):
        origin = Origin(Kind(5))
        origin.answer(put("x"), 0, time=1)
        origin.answer(put("y"), 0, time=3)
        origin.answer(put("z", ("if-no-mark", "*")), 0, time=4)
        self.assertEqual([origin.lateness("/a", text, 9) for text in "xyz"], [6, 0, None])
        origin.answer(delete(), 0, time=5)
        self.assertEqual([origin.lateness("/a", text, 9) for text in "xyz"], [6, 4, None])

    def test_default_time(self):
        for replace in (lambda origin: origin.change("/a", "y", 7), lambda origin: origin.place("/a", single("y"), 7),
                        lambda origin: origin.erase("/a"), lambda origin: origin.answer(put("y"), 7)):
            origin = holding("x")
            replace(origin)
            self.assertEqual(origin.lateness("/a", "x", 3), 3)

    def test_answers_change_nothing(self):
        origin = holding("x")
        self.assertIsInstance(origin.answer(get(), 0, time=5), Response)
        self.assertEqual(origin.lateness("/a", "x", 9), 0)
