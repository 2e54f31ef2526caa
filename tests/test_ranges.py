"""[24], [25], [26], [29]: ranges."""

import itertools
import random
import unittest

from hopkeep.errors import InvalidParts, InvalidValue
from hopkeep.messages import Response
from hopkeep.ranges import (answer_ranges, cheapest_ranges, read_parts, read_ranges, resolve,
                            write_ranges)
from hopkeep.spans import Spans
from tests.helpers import caught


class ReadRangesTest(unittest.TestCase):
    def test_example(self):
        ranges = read_ranges("0-4, -3, 20-")
        self.assertEqual([ranges, resolve(ranges, 10)],
                         [[(0, 4), (None, 3), (20, None)], [(0, 5), (7, 10)]])

    def test_forms(self):
        cases = {"0-0": [(0, 0)], "5-": [(5, None)], "-7": [(None, 7)], "-0": [(None, 0)],
                 " 1-2 ,, 3- ,": [(1, 2), (3, None)], "0-999999": [(0, 999999)],
                 "3-4, 0-1, 3-4": [(3, 4), (0, 1), (3, 4)]}
        for text, ranges in cases.items():
            self.assertEqual(read_ranges(text), ranges, text)

    def test_other_forms(self):
        for text in ("", " ", ",,", "-", "5", "a", "a-", "-a", "1-a", "a-1", "1 -2", "1- 2", "- 3", "1--2",
                     "--3", "1-2-3", "01-2", "1-02", "-01", "1000000-", "0-1000000", "-1000000", "1:2",
                     "0-1; 2-3", "*", "0-1, x", "x, 0-1", "0-1 2-3"):
            self.assertIsNone(read_ranges(text), text)

    def test_last_below_first(self):
        for text in ("5-4", "1-0", "0-1, 9-8", "9-8, 0-1"):
            self.assertIsNone(read_ranges(text), text)

    def test_number_of_elements(self):
        self.assertEqual(len(read_ranges(",".join(["0-1"] * 20))), 20)
        self.assertEqual(len(read_ranges(", ,".join(["0-1"] * 20))), 20)
        self.assertIsNone(read_ranges(",".join(["0-1"] * 21)))


class ResolveTest(unittest.TestCase):
    def test_cut_off(self):
        cases = [((0, 4), (0, 5)), ((0, 9), (0, 10)), ((0, 99), (0, 10)), ((9, 9), (9, 10)), ((10, 12), None),
                 ((9, None), (9, 10)), ((0, None), (0, 10)), ((10, None), None), ((11, None), None),
                 ((None, 0), None), ((None, 1), (9, 10)), ((None, 10), (0, 10)), ((None, 11), (0, 10))]
        for wanted, pair in cases:
            self.assertEqual(resolve([wanted], 10), [] if pair is None else [pair], wanted)

    def test_order_stays(self):
        self.assertEqual(resolve([(7, 8), (20, None), (0, 1), (7, 8), (None, 2)], 10),
                         [(7, 9), (0, 2), (7, 9), (8, 10)])

    def test_empty_content(self):
        self.assertEqual(resolve([(0, 0), (0, None), (None, 5), (None, 0)], 0), [])
        self.assertEqual(resolve([], 10), [])


class AnswerRangesTest(unittest.TestCase):
    def test_example(self):
        self.assertEqual(answer_ranges("abcdef", "4-,0-1"),
                         ("part", [("parts", "2")], "part 0-1/6\nab\npart 4-5/6\nef\n"))

    def test_unreadable(self):
        for text in ("", "x", "3-2", "1", ",".join(["0-1"] * 21)):
            self.assertEqual(answer_ranges("abc", text), ("ok", [], "abc"))

    def test_no_position(self):
        for text in ("3-", "3-9", "-0", "9-, -0"):
            self.assertEqual(answer_ranges("abc", text), ("norange", [("part", "*/3")], ""))
        self.assertEqual(answer_ranges("", "0-"), ("norange", [("part", "*/0")], ""))

    def test_one_pair(self):
        cases = {"0-0": ("0-0/6", "a"), "2-": ("2-5/6", "cdef"), "-2": ("4-5/6", "ef"), "-9": ("0-5/6", "abcdef"),
                 "0-1, 2-3": ("0-3/6", "abcd"), "1-3, 0-2": ("0-3/6", "abcd"), "4-, 9-": ("4-5/6", "ef")}
        for text, (value, body) in cases.items():
            self.assertEqual(answer_ranges("abcdef", text), ("part", [("part", value)], body), text)

    def test_several_pairs(self):
        status, fields, body = answer_ranges("a\n\ndef", "5-, 0-0, 2-2")
        self.assertEqual((status, fields), ("part", [("parts", "3")]))
        self.assertEqual(body, "part 0-0/6\na\npart 2-2/6\n\n\npart 5-5/6\nf\n")

    def test_gap(self):
        self.assertEqual(answer_ranges("abcdef", "0-0, 2-2", gap=1), ("part", [("part", "0-2/6")], "abc"))
        self.assertEqual(answer_ranges("abcdef", "0-0, 3-3", gap=1)[1], [("parts", "2")])
        self.assertEqual(answer_ranges("abcdef", "0-0, 3-3, 5-5", gap=1)[2], "part 0-0/6\na\npart 3-5/6\ndef\n")
        self.assertEqual(answer_ranges("abcdef", "0-0, 3-3", gap=2)[1], [("part", "0-3/6")])

    def test_bad_gap(self):
        for text in ("0-0", "x", "", "9-"):
            self.assertEqual(caught(InvalidValue, answer_ranges, "abc", text, gap=-1).name, "gap")

    def test_longest_content(self):
        content = "x" * 90000
        text = ", ".join(f"{at}-{at + 4000}" for at in range(0, 90000, 4500))
        status, fields, body = answer_ranges(content, text)
        self.assertEqual(read_parts(Response(status, fields, body))[0], 90000)


def parts(fields, body=""):
    return Response("part", fields, body)


class ReadPartsTest(unittest.TestCase):
    def refuses(self, fields, body=""):
        self.assertIsNotNone(caught(InvalidParts, read_parts, parts(fields, body)), (fields, body))

    def test_answers_are_read_back(self):
        rng = random.Random(5)
        for _ in range(500):
            content = "".join(rng.choice("ab\n 0/-") for _ in range(rng.randrange(1, 30)))
            text = ", ".join(rng.choice((f"{a}-{a + rng.randrange(4)}", f"{a}-", f"-{a}"))
                             for a in [rng.randrange(32) for _ in range(rng.randrange(1, 6))])
            status, fields, body = answer_ranges(content, text, gap=rng.randrange(3))
            if status == "part":
                length, pieces = read_parts(parts(fields, body))
                self.assertEqual(length, len(content))
                self.assertTrue(all(content[start:start + len(piece)] == piece and piece
                                    for start, piece in pieces))
                wanted = Spans(resolve(read_ranges(text), length))
                told = Spans([(start, start + len(piece)) for start, piece in pieces])
                self.assertFalse(wanted - told)

    def test_one_part(self):
        self.assertEqual(read_parts(parts([("x", ""), ("part", "2-4/9")], "a\nb")), (9, [(2, "a\nb")]))
        self.assertEqual(read_parts(parts([("part", "8-8/9")], "a")), (9, [(8, "a")]))

    def test_blocks(self):
        body = "part 0-1/9\na\n\npart 5-5/9\nb\n"
        self.assertEqual(read_parts(parts([("parts", "2")], body)), (9, [(0, "a\n"), (5, "b")]))

    def test_blocks_that_touch(self):
        body = "part 0-1/9\nab\npart 2-2/9\nc\npart 3-3/9\nd\n"
        self.assertEqual(read_parts(parts([("parts", "3")], body)), (9, [(0, "ab"), (2, "c"), (3, "d")]))

    def test_status_makes_no_difference(self):
        self.assertEqual(read_parts(Response("ok", [("part", "0-0/1")], "a")), (1, [(0, "a")]))

    def test_fields(self):
        body = "part 0-0/9\na\npart 5-5/9\nb\n"
        one, two = ("part", "0-25/99"), ("parts", "2")
        self.assertEqual(len(read_parts(parts([one], body))[1]), 1)
        self.assertEqual(len(read_parts(parts([two], body))[1]), 2)
        for fields in ([], [one, two], [two, one], [one, one], [two, two], [one, two, two], [one, one, two]):
            self.refuses(fields, body)

    def test_value_of_part(self):
        for value in ("", "0-1", "0-1/", "-1/9", "0-/9", "0/9", "01-1/9", "0-01/9", "0-1/09", "*/9", "0-1/*",
                      "0 -1/9", "0- 1/9", "0-1 /9", "0-1/ 9", "part 0-1/9", "0-1/9/9", "0-1-2/9", "0-1/1000000",
                      "a-1/9", "0-1,9", "-0-1/9"):
            self.refuses([("part", value)], "ab")
        self.assertEqual(read_parts(parts([("part", "0-1/9")], "ab")), (9, [(0, "ab")]))

    def test_last(self):
        self.refuses([("part", "2-1/9")], "")
        self.refuses([("part", "1-0/9")], "")
        self.refuses([("part", "0-2/2")], "abc")
        self.refuses([("part", "0-0/0")], "a")
        self.refuses([("parts", "2")], "part 0-0/9\na\npart 9-9/9\nb\n")
        self.refuses([("parts", "2")], "part 0-0/9\na\npart 5-4/9\n\n")

    def test_number_of_characters(self):
        for body in ("", "a", "abc", "ab\n"):
            self.refuses([("part", "0-1/9")], body)
        for block in ("part 5-6/9\nb\n", "part 5-6/9\nbcd\n", "part 5-6/9\nbc", "part 5-6/9\n", "part 5-6/9"):
            self.refuses([("parts", "2")], "part 0-0/9\na\n" + block)

    def test_text_remains(self):
        body = "part 0-0/9\na\npart 5-6/9\nbc\n"
        self.assertEqual(len(read_parts(parts([("parts", "2")], body))[1]), 2)
        for rest in ("\n", "x", "part", "part 8-8/9\n", " "):
            self.refuses([("parts", "2")], body + rest)
        self.refuses([("parts", "2")], "\n" + body)

    def test_lines_of_blocks(self):
        for line in ("", "part", "part ", "part  5-6/9", " part 5-6/9", "part 5-6/9 ", "Part 5-6/9", "5-6/9",
                     "part: 5-6/9", "part 5-6", "part 05-6/9", "part 5-6/*", "parts 5-6/9", "part-5-6/9"):
            self.refuses([("parts", "2")], "part 0-0/9\na\n" + line + "\nbc\n")

    def test_count(self):
        body = "part 0-0/9\na\npart 5-6/9\nbc\n"
        for value in ("", "0", "1", "3", "02", "two", "2.", "-2", "2, 2", "+2", "1000000"):
            self.refuses([("parts", value)], body)
        self.refuses([("parts", "1")], "part 0-0/9\na\n")
        self.refuses([("parts", "0")], "")
        self.refuses([("parts", "2")], "")

    def test_different_lengths(self):
        self.refuses([("parts", "2")], "part 0-0/9\na\npart 5-6/8\nbc\n")
        self.refuses([("parts", "3")], "part 0-0/9\na\npart 5-6/9\nbc\npart 8-8/10\nx\n")

    def test_order_of_blocks(self):
        self.refuses([("parts", "2")], "part 5-6/9\nbc\npart 0-0/9\na\n")
        self.refuses([("parts", "2")], "part 0-2/9\nabc\npart 2-3/9\ncd\n")
        self.refuses([("parts", "2")], "part 0-0/9\na\npart 0-0/9\na\n")
        self.refuses([("parts", "3")], "part 0-0/9\na\npart 5-6/9\nab\npart 2-2/9\nc\n")


def price(spans, cost):
    return spans.size + cost * len(spans)


class CheapestTest(unittest.TestCase):
    def test_example(self):
        missing = Spans([(0, 2), (4, 6), (20, 22)])
        self.assertEqual(cheapest_ranges(missing, 3).pairs(), [(0, 6), (20, 22)])

    def test_equal_sums(self):
        missing = Spans([(0, 2), (4, 6)])
        self.assertEqual(cheapest_ranges(missing, 2), missing)
        self.assertEqual(cheapest_ranges(missing, 3).pairs(), [(0, 6)])

    def test_no_cost_and_empty_set(self):
        missing = Spans([(0, 1), (2, 3)])
        self.assertEqual(cheapest_ranges(missing, 0), missing)
        self.assertEqual(cheapest_ranges(missing, 1), missing)
        for cost in (0, 1, 9):
            self.assertEqual(cheapest_ranges(Spans(), cost), Spans())

    def test_bad_cost(self):
        for missing in (Spans(), Spans([(0, 1)])):
            for cost in (-1, -7):
                self.assertEqual(caught(InvalidValue, cheapest_ranges, missing, cost).name, "cost")

    def test_every_cover(self):
        covers = []
        for bits in itertools.product((False, True), repeat=9):
            covers.append(Spans([(at, at + 1) for at in range(9) if bits[at]]))
        rng = random.Random(6)
        for _ in range(60):
            missing = rng.choice(covers)
            before = missing.pairs()
            for cost in range(5):
                found = cheapest_ranges(missing, cost)
                fits = [one for one in covers if not missing - one]
                least = min(price(one, cost) for one in fits)
                most = max(len(one) for one in fits if price(one, cost) == least)
                self.assertFalse(missing - found)
                self.assertEqual((price(found, cost), len(found)), (least, most))
            self.assertEqual(missing.pairs(), before)


class WriteRangesTest(unittest.TestCase):
    def test_written(self):
        self.assertEqual(write_ranges(Spans()), "")
        self.assertEqual(write_ranges(Spans([(0, 1)])), "0-0")
        self.assertEqual(write_ranges(Spans([(4, 6), (0, 2), (20, 22)])), "0-1, 4-5, 20-21")

    def test_read_back(self):
        spans = Spans([(0, 3), (5, 6), (8, 12)])
        self.assertEqual(Spans(resolve(read_ranges(write_ranges(spans)), 12)), spans)
