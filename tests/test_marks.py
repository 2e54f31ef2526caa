"""[17], [18], [19]: marks, lists of marks, and `settled`."""

import unittest

from hopkeep.errors import InvalidMark, InvalidValue
from hopkeep.marks import Mark, MarkList, settled
from tests.helpers import caught


class MarkTest(unittest.TestCase):
    def test_example(self):
        one = Mark.read('w"v1"')
        self.assertEqual([str(one), one.weakly(Mark("v1")), one.strongly(one)], ['w"v1"', True, False])

    def test_texts(self):
        for text in ("a", "0", "-", ".", "v1.0", "w", "a" * 40):
            self.assertEqual((Mark(text).text, Mark(text).weak), (text, False))
            self.assertEqual(Mark(text, weak=True).weak, True)
        for text in ("", "A", "a b", "a_b", '"a"', "a" * 41, "%", "\n", "a\n", "\u00e9", "*", "a/b"):
            self.assertEqual(caught(InvalidValue, Mark, text).name, "text")
            self.assertEqual(caught(InvalidValue, Mark, text, True).name, "text")

    def test_written_form(self):
        for text in ("v7", "w", "a" * 40, "-.0"):
            self.assertEqual(str(Mark(text)), '"' + text + '"')
            self.assertEqual(str(Mark(text, True)), 'w"' + text + '"')
            for weak in (False, True):
                read = Mark.read(str(Mark(text, weak)))
                self.assertEqual((read.text, read.weak), (text, weak))

    def test_near_misses(self):
        for text in ("", "v7", '"', '""', 'w""', '"v7', 'v7"', 'w"v7', 'W"v7"', 'w "v7"', '"v7" ',
                     ' "v7"', '"V7"', "'v7'", '"v7""', '""v7"', 'ww"v7"', '"v 7"', "w", 'w"', "*",
                     '"' + "a" * 41 + '"', 'w"' + "a" * 41 + '"', '"v7", "v8"', '"v7"\n'):
            self.assertEqual(caught(InvalidMark, Mark.read, text).text, text)

    def test_matching(self):
        strong, weak, other = Mark("a"), Mark("a", True), Mark("b")
        self.assertEqual([strong.strongly(Mark("a")), strong.strongly(weak), weak.strongly(strong),
                          weak.strongly(weak), strong.strongly(other)],
                         [True, False, False, False, False])
        self.assertEqual([strong.weakly(Mark("a")), strong.weakly(weak), weak.weakly(strong),
                          weak.weakly(weak), strong.weakly(other), weak.weakly(other)],
                         [True, True, True, True, False, False])

    def test_equal(self):
        self.assertEqual(Mark("a"), Mark("a", False))
        self.assertEqual(Mark("a", True), Mark("a", True))
        for other in (Mark("a", True), Mark("b"), '"a"', None):
            self.assertFalse(Mark("a") == other)
            self.assertTrue(Mark("a") != other)


class MarkListTest(unittest.TestCase):
    def test_read(self):
        for text in ('"a", w"b"', ' "a" ,, w"b" ,', '"a",w"b"'):
            found = MarkList.read(text)
            self.assertEqual((found.marks, found.star, len(found)),
                             ([Mark("a"), Mark("b", True)], False, 2))
        self.assertEqual(MarkList.read('"a","a"').marks, [Mark("a"), Mark("a")])

    def test_star(self):
        for text in ("*", " * ", ",*,"):
            found = MarkList.read(text)
            self.assertEqual((found.marks, found.star, len(found)), ([], True, 0))

    def test_unreadable(self):
        for text in ("", " ", ", ,", '*, "a"', '"a", *', "*, *", "**", "a", '"a" "b"', '"a"; "b"',
                     '"a", b', 'w, "a"', '"a,b"'):
            self.assertEqual(caught(InvalidMark, MarkList.read, text).text, text)

    def test_matching(self):
        marks = MarkList([Mark("a"), Mark("b", True)])
        for mark, strongly, weakly in ((Mark("a"), True, True), (Mark("a", True), False, True),
                                       (Mark("b"), False, True), (Mark("b", True), False, True),
                                       (Mark("c"), False, False), (None, False, False)):
            self.assertIs(marks.strongly(mark), strongly)
            self.assertIs(marks.weakly(mark), weakly)

    def test_star_and_empty_list(self):
        for mark in (Mark("a"), Mark("a", True), None):
            star = MarkList([], True)
            self.assertIs(star.strongly(mark), True)
            self.assertIs(star.weakly(mark), True)
            self.assertIs(MarkList([]).strongly(mark), False)
            self.assertIs(MarkList([]).weakly(mark), False)

    def test_constructor(self):
        self.assertEqual(caught(InvalidValue, MarkList, [Mark("a")], True).name, "star")
        self.assertIs(MarkList([], star=True).star, True)
        self.assertEqual(MarkList(marks=[Mark("a")], star=False).marks, [Mark("a")])

    def test_sum(self):
        first = MarkList([Mark("b"), Mark("a"), Mark("b")])
        second = MarkList([Mark("a"), Mark("a", True), Mark("c"), Mark("a", True)])
        both = first + second
        self.assertEqual(both.marks, [Mark("b"), Mark("a"), Mark("a", True), Mark("c")])
        self.assertIs(both.star, False)
        self.assertEqual((second + first).marks, [Mark("a"), Mark("a", True), Mark("c"), Mark("b")])
        self.assertEqual((len(first), len(second)), (3, 4))
        self.assertEqual((MarkList([]) + MarkList([])).marks, [])
        self.assertEqual((first + first).marks, [Mark("b"), Mark("a")])

    def test_first_of_equal_marks_stays(self):
        mark, equal = Mark("a"), Mark("a")
        self.assertIs((MarkList([mark]) + MarkList([equal])).marks[0], mark)

    def test_sum_with_star(self):
        star, marks = MarkList([], True), MarkList([Mark("a")])
        for one in (star + marks, marks + star, star + star, star + MarkList([])):
            self.assertEqual((one.star, one.marks), (True, []))

    def test_copies(self):
        given = [Mark("a")]
        marks = MarkList(given)
        given.append(Mark("b"))
        both = marks + MarkList([])
        both.marks.append(Mark("c"))
        self.assertEqual(marks.marks, [Mark("a")])


class SettledTest(unittest.TestCase):
    def test_margin(self):
        self.assertIs(settled(10, 15, 5), True)
        self.assertIs(settled(10, 14, 5), False)
        self.assertIs(settled(10, 16, 5), True)
        self.assertIs(settled(-3, -3, 0), True)
        self.assertIs(settled(-3, -4, 0), False)
        self.assertIs(settled(changed=0, date=0, margin=0), True)

    def test_unknown(self):
        for changed, date in ((None, 5), (5, None), (None, None)):
            self.assertIs(settled(changed, date, 0), False)
