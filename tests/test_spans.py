"""[23]: spans."""

import itertools
import random
import unittest

from hopkeep.errors import InvalidValue
from hopkeep.spans import Spans
from tests.helpers import caught


def positions(spans):
    return {at for start, end in spans.pairs() for at in range(start, end)}


def some_pairs(rng):
    starts = [rng.randrange(20) for _ in range(rng.randrange(6))]
    return [(start, start + rng.randrange(6)) for start in starts]


class SpansTest(unittest.TestCase):
    def test_example(self):
        whole = Spans([(3, 5), (0, 2), (2, 3)])
        self.assertEqual([whole.pairs(), (whole - Spans([(1, 2)])).pairs()], [[(0, 5)], [(0, 1), (2, 5)]])

    def test_pairs(self):
        cases = [([], []), ([(4, 4)], []), ([(0, 0), (2, 3)], [(2, 3)]), ([(0, 2), (3, 4)], [(0, 2), (3, 4)]),
                 ([(3, 4), (0, 3)], [(0, 4)]), ([(0, 9), (2, 3)], [(0, 9)]), ([(2, 3), (2, 5)], [(2, 5)]),
                 ([(0, 2), (1, 4), (4, 4), (6, 8)], [(0, 4), (6, 8)]), ([(1, 2)] * 3, [(1, 2)])]
        for pairs, kept in cases:
            for order in itertools.permutations(pairs):
                self.assertEqual(Spans(list(order)).pairs(), kept)
                self.assertEqual(Spans(order).pairs(), kept)
        self.assertEqual(Spans().pairs(), [])
        self.assertEqual(Spans(pairs=[(0, 1)]).pairs(), [(0, 1)])

    def test_bad_pairs(self):
        for bad in ((-1, 2), (-1, -1), (3, 2), (-2, -3), (1, 0)):
            for pairs in ([bad], [(0, 1), bad], [bad, (0, 1)], [(0, 1), bad, (5, 9)]):
                self.assertEqual(caught(InvalidValue, Spans, pairs).name, "pairs")

    def test_size_and_truth(self):
        for pairs, length, size in (([], 0, 0), ([(5, 5)], 0, 0), ([(0, 1)], 1, 1), ([(0, 3), (9, 11)], 2, 5)):
            spans = Spans(pairs)
            self.assertEqual((len(spans), spans.size), (length, size))
            self.assertIs(bool(spans), length > 0)

    def test_in(self):
        spans = Spans([(2, 4), (6, 7)])
        self.assertEqual([at for at in range(-3, 10) if at in spans], [2, 3, 6])
        self.assertFalse(0 in Spans())

    def test_equal(self):
        self.assertTrue(Spans([(0, 1), (1, 2)]) == Spans([(0, 2)]))
        self.assertTrue(Spans() == Spans([(3, 3)]))
        self.assertFalse(Spans([(0, 2)]) != Spans([(0, 2)]))
        for other in (Spans([(0, 1)]), Spans(), [(0, 2)], None):
            self.assertFalse(Spans([(0, 2)]) == other)

    def test_operators_are_those_of_sets(self):
        rng = random.Random(4)
        for _ in range(2000):
            first, second = Spans(some_pairs(rng)), Spans(some_pairs(rng))
            a, b = positions(first), positions(second)
            before = (first.pairs(), second.pairs())
            for spans, wanted in ((first | second, a | b), (first & second, a & b), (first - second, a - b)):
                self.assertEqual(positions(spans), wanted)
                self.assertEqual(spans.size, len(wanted))
                self.assertEqual(spans, Spans([(at, at + 1) for at in wanted]))
                pairs = spans.pairs()
                self.assertTrue(all(start < end for start, end in pairs))
                self.assertTrue(all(one[1] < two[0] for one, two in zip(pairs, pairs[1:])))
            self.assertEqual(first == second, a == b)
            self.assertEqual((first.pairs(), second.pairs()), before)

    def test_operator_edges(self):
        spans = Spans([(2, 4), (6, 8)])
        self.assertEqual((spans - spans).pairs(), [])
        self.assertEqual((spans - Spans()).pairs(), [(2, 4), (6, 8)])
        self.assertEqual((Spans() - spans).pairs(), [])
        self.assertEqual((spans & Spans([(4, 6)])).pairs(), [])
        self.assertEqual((spans | Spans([(4, 6)])).pairs(), [(2, 8)])
        self.assertEqual((spans - Spans([(3, 7), (20, 30)])).pairs(), [(2, 3), (7, 8)])

    def test_bridged(self):
        spans = Spans([(0, 1), (2, 4), (6, 7), (10, 12)])
        cases = {0: [(0, 1), (2, 4), (6, 7), (10, 12)], 1: [(0, 4), (6, 7), (10, 12)],
                 2: [(0, 7), (10, 12)], 3: [(0, 12)], 99: [(0, 12)]}
        for gap, pairs in cases.items():
            self.assertEqual(spans.bridged(gap).pairs(), pairs)
        self.assertEqual(spans.bridged(gap=3).size, 12)
        self.assertEqual(Spans().bridged(5), Spans())
        self.assertEqual(Spans([(3, 4)]).bridged(9).pairs(), [(3, 4)])
        self.assertEqual(len(spans), 4)

    def test_bad_gap(self):
        for spans in (Spans(), Spans([(0, 1), (2, 3)])):
            for gap in (-1, -9):
                self.assertEqual(caught(InvalidValue, spans.bridged, gap).name, "gap")

    def test_copies(self):
        given = [(0, 2)]
        spans = Spans(given)
        given.append((4, 6))
        spans.pairs().append((8, 9))
        spans.pairs()[0] = (0, 1)
        self.assertEqual(spans.pairs(), [(0, 2)])
        same = spans.bridged(0)
        same.pairs().clear()
        self.assertEqual((spans.pairs(), same.pairs()), ([(0, 2)], [(0, 2)]))
