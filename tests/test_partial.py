"""[27], [28]: kept parts and their joining."""

import itertools
import random
import unittest

from hopkeep.errors import Incomplete, InvalidValue, Mixed, NotJoinable, OutOfContent
from hopkeep.marks import Mark
from hopkeep.messages import Response
from hopkeep.partial import Partial
from hopkeep.ranges import answer_ranges, cheapest_ranges, read_parts, write_ranges
from hopkeep.spans import Spans
from tests.helpers import caught

TEXT = "abcdefghij"
STRONG = Mark("v1")


def holding(pairs, mark=STRONG, text=TEXT):
    """A Partial of a text with these stretches."""
    part = Partial(mark, len(text))
    for start, end in pairs:
        part.put(start, text[start:end])
    return part


def kept(part):
    """What a Partial keeps, position by position; a dot where nothing is kept."""
    return "".join(part.stretch(at, at + 1) if at in part.have() else "." for at in range(part.length))


class PutTest(unittest.TestCase):
    def test_example(self):
        part = Partial(None, 4)
        part.put(0, "ab")
        self.assertEqual(caught(Mixed, part.put, 1, "c").index, 1)

    def test_attributes(self):
        part = Partial(STRONG, 7)
        self.assertEqual((part.mark, part.length, part.whole), (STRONG, 7, False))
        self.assertIsNone(Partial(None, 7).mark)
        self.assertEqual((part.have(), part.lacking()), (Spans(), Spans([(0, 7)])))

    def test_length(self):
        for length in (-1, -5):
            self.assertEqual(caught(InvalidValue, Partial, STRONG, length).name, "length")
        part = Partial(None, 0)
        self.assertEqual((part.whole, part.whole_text(), part.stretch(0, 0)), (True, "", ""))
        self.assertEqual((part.have(), part.lacking()), (Spans(), Spans()))
        part.put(0, "")
        self.assertIsNotNone(caught(OutOfContent, part.put, 0, "a"))

    def test_places(self):
        for pairs, text in (([(0, 2)], "ab........"), ([(8, 10)], "........ij"), ([(9, 10)], ".........j"),
                            ([(0, 2), (2, 4)], "abcd......"), ([(5, 7), (1, 3)], ".bc..fg..."),
                            ([(0, 4), (2, 6)], "abcdef...."), ([(2, 6), (0, 4)], "abcdef...."),
                            ([(3, 4), (0, 9)], "abcdefghi."), ([(0, 9), (3, 4)], "abcdefghi."),
                            ([(0, 3), (5, 8), (2, 6)], "abcdefgh.."), ([(0, 1), (4, 5), (8, 9)], "a...e...i."),
                            ([(0, 1), (4, 5), (8, 9), (1, 8)], "abcdefghi."), ([(0, 10)], TEXT)):
            self.assertEqual(kept(holding(pairs)), text)

    def test_empty_text_keeps_nothing(self):
        part = holding([(2, 4)])
        for start in (0, 2, 3, 4, 5, 10):
            part.put(start, "")
        self.assertEqual(part.have().pairs(), [(2, 4)])

    def test_out_of_content(self):
        part = holding([(0, 10)])
        for start, text in ((-1, ""), (-1, "xx"), (11, ""), (10, "x"), (9, "jx"), (-3, TEXT), (0, TEXT + "x")):
            self.assertIsNotNone(caught(OutOfContent, part.put, start, text), (start, text))
        self.assertEqual(part.whole_text(), TEXT)

    def test_mixed_index_is_the_least(self):
        for start, text, index in ((2, "Xde", 2), (2, "cdX", 4), (2, "cXX", 3), (0, "abcdeXghiX", 5),
                                   (1, "XcdeXghi", 5), (5, "XXX", 5), (7, "XXX", 9)):
            part = holding([(2, 6), (9, 10)])
            self.assertEqual(caught(Mixed, part.put, start, text).index, index, text)
            self.assertEqual(kept(part), "..cdef...j")

    def test_against_a_dict(self):
        rng = random.Random(27)
        for _ in range(300):
            length = rng.randrange(1, 12)
            part = Partial(None, length)
            model = {}
            for _ in range(8):
                start = rng.randrange(-1, length + 1)
                text = "".join(rng.choice("aab") for _ in range(rng.randrange(5)))
                bad = [at for at, sign in enumerate(text, start) if model.get(at, sign) != sign]
                if start < 0 or start + len(text) > length:
                    self.assertIsNotNone(caught(OutOfContent, part.put, start, text))
                elif bad:
                    self.assertEqual(caught(Mixed, part.put, start, text).index, bad[0])
                else:
                    part.put(start, text)
                    model.update(enumerate(text, start))
                self.assertEqual(kept(part), "".join(model.get(at, ".") for at in range(length)))
                self.assertEqual(part.have() | part.lacking(), Spans([(0, length)]))
                self.assertFalse(part.have() & part.lacking())
                self.assertIs(part.whole, len(model) == length)

    def test_many_pieces(self):
        part = Partial(None, 3000)
        for start in [*range(0, 3000, 2), *range(1, 3000, 2)]:
            part.put(start, "x")
        self.assertEqual(part.whole_text(), "x" * 3000)


class ReadTest(unittest.TestCase):
    def test_have_and_lacking(self):
        part = holding([(2, 4), (6, 7)])
        self.assertEqual(part.have().pairs(), [(2, 4), (6, 7)])
        self.assertEqual(part.lacking().pairs(), [(0, 2), (4, 6), (7, 10)])
        self.assertEqual(holding([(0, 10)]).lacking().pairs(), [])

    def test_whole(self):
        part = holding([(0, 4), (5, 10)])
        self.assertIs(part.whole, False)
        error = caught(Incomplete, part.whole_text)
        self.assertEqual(error.missing, [(4, 5)])
        part.put(4, "e")
        self.assertIs(part.whole, True)
        self.assertEqual(part.whole_text(), TEXT)
        self.assertEqual(caught(Incomplete, Partial(None, 3).whole_text).missing, [(0, 3)])

    def test_stretch(self):
        part = holding([(2, 5), (7, 9)])
        for start, end, text in ((2, 5, "cde"), (3, 4, "d"), (7, 9, "hi"), (3, 3, ""), (0, 0, ""), (10, 10, ""),
                                 (6, 6, "")):
            self.assertEqual(part.stretch(start, end), text)
        for start, end, missing in ((0, 10, [(0, 2), (5, 7), (9, 10)]), (1, 6, [(1, 2), (5, 6)]),
                                    (4, 8, [(5, 7)]), (5, 7, [(5, 7)]), (6, 7, [(6, 7)]), (8, 10, [(9, 10)])):
            self.assertEqual(caught(Incomplete, part.stretch, start, end).missing, missing)

    def test_stretch_out_of_content(self):
        for part in (holding([(0, 10)]), holding([])):
            for start, end in ((-1, 3), (-1, -1), (4, 3), (1, 0), (0, 11), (11, 11), (5, 12)):
                self.assertIsNotNone(caught(OutOfContent, part.stretch, start, end), (start, end))

    def test_copy(self):
        part = holding([(0, 2)])
        twin = part.copy()
        part.put(2, "c")
        twin.put(2, "X")
        self.assertEqual((kept(part), kept(twin)), ("abc.......", "abX......."))
        self.assertEqual((twin.mark, twin.length), (STRONG, 10))


class JoinTest(unittest.TestCase):
    def test_pieces_of_both(self):
        first = holding([(0, 2), (6, 8)])
        second = holding([(1, 4), (9, 10)])
        self.assertIsNone(first.join(second))
        self.assertEqual(kept(first), "abcd..gh.j")
        self.assertEqual(kept(second), ".bcd.....j")

    def test_not_joinable(self):
        for first, second in ((STRONG, Mark("v2")), (STRONG, Mark("v1", True)), (Mark("v1", True), STRONG),
                              (Mark("v1", True), Mark("v1", True)), (None, STRONG), (STRONG, None), (None, None)):
            one = holding([(0, 2)], first)
            two = holding([(4, 6)], second)
            self.assertIsNotNone(caught(NotJoinable, one.join, two))
            self.assertIsNotNone(caught(NotJoinable, one.joined, two))
            self.assertEqual((kept(one), kept(two)), ("ab........", "....ef...."))

    def test_lengths(self):
        one = holding([(0, 2)])
        two = Partial(STRONG, 9)
        two.put(0, "X")
        for first, second in ((one, two), (two, one)):
            self.assertIsNotNone(caught(NotJoinable, first.join, second))
            self.assertIsNotNone(caught(NotJoinable, first.joined, second))

    def test_mixed_adds_nothing(self):
        first = holding([(3, 6), (8, 9)])
        for pairs, text, index in (([(0, 4), (8, 10)], "abcdefghXj", 8), ([(0, 10)], "XbcXefghXj", 3),
                                   ([(8, 9), (5, 6)], "abcdeXghXj", 5)):
            second = holding(pairs, text=text)
            before = kept(second)
            self.assertEqual(caught(Mixed, first.join, second).index, index)
            self.assertEqual(caught(Mixed, first.joined, second).index, index)
            self.assertEqual(caught(Mixed, second.join, first).index, index)
            self.assertEqual((kept(first), kept(second)), ("...def..i.", before))

    def test_with_itself(self):
        part = holding([(1, 3), (5, 6)])
        part.join(part)
        self.assertEqual(kept(part), ".bc..f....")
        self.assertEqual(kept(part.joined(part)), ".bc..f....")
        self.assertIsNotNone(caught(NotJoinable, Partial(None, 2).join, Partial(None, 2)))
        weak = Partial(Mark("a", True), 2)
        self.assertIsNotNone(caught(NotJoinable, weak.join, weak))

    def test_joined(self):
        first = holding([(0, 2)])
        second = holding([(2, 3), (5, 7)])
        both = first.joined(second)
        self.assertEqual((kept(both), both.mark, both.length), ("abc..fg...", STRONG, 10))
        both.put(9, "j")
        self.assertEqual((kept(first), kept(second)), ("ab........", "..c..fg..."))

    def test_order_makes_no_difference(self):
        lists = [[(0, 2), (5, 6)], [(1, 4)], [(4, 5), (9, 10)], [(6, 6)]]
        found = set()
        for order in itertools.permutations(lists):
            part = Partial(STRONG, 10)
            for pairs in order:
                part.join(holding(pairs))
            found.add(kept(part))
        self.assertEqual(found, {"abcdef...j"})


class RangesTest(unittest.TestCase):
    def answered(self, content, text):
        """The Partial with the parts that answer a range field."""
        status, fields, body = answer_ranges(content, text)
        self.assertEqual(status, "part")
        length, pieces = read_parts(Response(status, fields, body))
        part = Partial(STRONG, length)
        for start, piece in pieces:
            part.put(start, piece)
        return part

    def test_parts_join_to_the_whole(self):
        content = "".join(f"line {n}\n" for n in range(30))
        found = Partial(STRONG, len(content))
        for text in ("0-9, 40-60", "-100", "5-45", "61-", "58-70, 0-0"):
            found.join(self.answered(content, text))
        self.assertEqual(found.whole_text(), content)

    def test_cheapest_ranges_fill_the_gaps(self):
        rng = random.Random(29)
        for cost in (0, 1, 3, 8, 100):
            for _ in range(20):
                part = holding([(at, at + 1) for at in rng.sample(range(10), rng.randrange(10))])
                wanted = cheapest_ranges(part.lacking(), cost)
                part.join(self.answered(TEXT, write_ranges(wanted)))
                self.assertEqual((part.lacking(), part.whole_text()), (Spans(), TEXT))
