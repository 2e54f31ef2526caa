"""[30], [31], [32]: preferences, quality and choosing."""

import random
import unittest

from hopkeep.errors import InvalidValue
from hopkeep.messages import Request
from hopkeep.variants import Variant, choose, quality, ranking, read_preferences
from tests.helpers import caught

BAD_WORDS = ("", "A", "aB", "1a", "-a", "a_b", "a b", " a", "a;", "*", "a" * 21, "a.b")


class PreferencesTest(unittest.TestCase):
    def test_example(self):
        preferences = read_preferences("en;500, *;100, !")
        self.assertEqual([quality(preferences, "en-gb"), quality(preferences, "fr"), quality([], "fr")],
                         [500, 100, 1000])

    def test_forms(self):
        for text, pairs in (("a", [("a", 1000)]), ("a" * 20, [("a" * 20, 1000)]), ("*", [("*", 1000)]),
                            ("z9-;7", [("z9-", 7)]), ("b;0, a;1000", [("b", 0), ("a", 1000)]),
                            ("*;5,,a ;", [("*", 5)]), ("  a;1  ,b", [("a", 1), ("b", 1000)]),
                            ("", []), (" , ,", [])):
            self.assertEqual(read_preferences(text), pairs, text)
        self.assertEqual(read_preferences(None), [])

    def test_other_forms_are_ignored(self):
        for word in BAD_WORDS:
            if word not in ("", " a", "*"):
                self.assertEqual(read_preferences(f"x;1, {word}, y"), [("x", 1), ("y", 1000)], word)
        for number in ("", "1001", "01", "00", "-1", " 5", "5 5", "5;5", "a", "1000000", "*"):
            self.assertEqual(read_preferences(f"x, a;{number}"), [("x", 1000)], number)
        for text in ("a ;5", "**", "*a", "a*", ";", ";5", "a/b"):
            self.assertEqual(read_preferences(text), [], text)

    def test_first_one_of_a_word_counts(self):
        self.assertEqual(read_preferences("a;5, b, a;7, b;0, a"), [("a", 5), ("b", 1000)])
        self.assertEqual(read_preferences("*;5, *"), [("*", 5)])

    def test_ignored_elements_are_not_the_first(self):
        self.assertEqual(read_preferences("a;1001, b;1, a;01, a;6, a;7"), [("b", 1), ("a", 6)])


class QualityTest(unittest.TestCase):
    def test_covering(self):
        pairs = [("en", 300)]
        for word, worth in (("en", 300), ("en-", 300), ("en-gb", 300), ("en-gb-x", 300), ("eng", 0), ("e", 0),
                            ("fr-en", 0), ("den", 0)):
            self.assertEqual(quality(pairs, word), worth, word)
        self.assertEqual(quality([("en-gb", 300)], "en"), 0)

    def test_longest_one_counts(self):
        for pairs in ([("en", 1), ("en-gb", 2), ("*", 3)], [("*", 3), ("en-gb", 2), ("en", 1)]):
            for word, worth in (("en", 1), ("en-us", 1), ("en-gb", 2), ("en-gb-x", 2), ("en-gbx", 1), ("fr", 3),
                                ("eng", 3)):
                self.assertEqual(quality(pairs, word), worth, word)
        self.assertEqual(quality([("*", 900), ("a", 0)], "a"), 0)
        self.assertEqual(quality([("a", 0), ("*", 900)], "a-b"), 0)

    def test_no_preferences(self):
        self.assertEqual(quality([], "a"), 1000)
        self.assertEqual(quality([("b", 0)], "a"), 0)
        self.assertEqual(quality([("*", 0)], "a"), 0)
        self.assertEqual(quality(read_preferences("!"), "a"), 1000)


class VariantTest(unittest.TestCase):
    def test_attributes(self):
        one = Variant("text", "en", "none", "x\n", weight=7)
        self.assertEqual((one.form, one.tongue, one.coding, one.content, one.weight),
                         ("text", "en", "none", "x\n", 7))
        self.assertEqual(Variant("a" * 20, "b-9", "c", "").weight, 1000)

    def test_wrong_values(self):
        for word in BAD_WORDS:
            self.assertEqual(caught(InvalidValue, Variant, word, "a", "a", "").name, "form", word)
            self.assertEqual(caught(InvalidValue, Variant, "a", word, "a", "").name, "tongue", word)
            self.assertEqual(caught(InvalidValue, Variant, "a", "a", word, "").name, "coding", word)
        for content in ("%", "\t", "x" * 100001):
            self.assertEqual(caught(InvalidValue, Variant, "a", "a", "a", content).name, "content")
        self.assertEqual(len(Variant("a", "a", "a", "x" * 100000).content), 100000)
        for weight in (0, -1, 1001):
            self.assertEqual(caught(InvalidValue, Variant, "a", "a", "a", "", weight=weight).name, "weight")
        for weight in (1, 1000):
            self.assertEqual(Variant("a", "a", "a", "", weight=weight).weight, weight)

    def test_order_of_the_parameters(self):
        values = ["A", "A", "A", "%", 0]
        good = ["a", "a", "a", "", 1]
        for at, name in enumerate(("form", "tongue", "coding", "content", "weight")):
            form, tongue, coding, content, weight = good[:at] + values[at:]
            error = caught(InvalidValue, Variant, form, tongue, coding, content, weight=weight)
            self.assertEqual(error.name, name)


class ChooseTest(unittest.TestCase):
    VARIANTS = [Variant("text", "en", "none", "0", weight=500), Variant("text", "fr", "none", "1"),
                Variant("page", "en", "zip", "2", weight=900), Variant("page", "fr", "zip", "3")]

    def chosen(self, *fields, method="get", variants=None):
        request = Request(method, "/a", fields)
        own = self.VARIANTS if variants is None else variants
        order = list(ranking(own, request))
        self.assertEqual(choose(own, request), order[0] if order else None)
        return order

    def test_no_preferences(self):
        self.assertEqual(self.chosen(), [1, 3, 2, 0])

    def test_each_axis(self):
        self.assertEqual(self.chosen(("want-form", "text")), [1, 0])
        self.assertEqual(self.chosen(("want-tongue", "en")), [2, 0])
        self.assertEqual(self.chosen(("want-coding", "zip")), [3, 2])
        # The second and the third one have the same score.
        self.assertEqual(self.chosen(("want-coding", "zip;1, *;2")), [1, 0, 3, 2])
        self.assertEqual(self.chosen(("want-form", "page"), ("want-tongue", "en")), [2])

    def test_products(self):
        # 500*1000*1000, 1000*1000*501, 900*555*1000, 1000*555*501
        self.assertEqual(self.chosen(("want-form", "page;555, *"), ("want-tongue", "en, fr;501")), [1, 0, 2, 3])
        self.assertEqual(self.chosen(("want-form", "page;556, *"), ("want-tongue", "en, fr;501")), [1, 2, 0, 3])

    def test_several_fields_are_joined(self):
        self.assertEqual(self.chosen(("want-form", "text"), ("want-form", "page;1")), [1, 0, 3, 2])

    def test_scores_of_zero(self):
        self.assertEqual(self.chosen(("want-form", "text;0, *")), [3, 2])
        self.assertEqual(self.chosen(("want-form", "none")), [])
        self.assertEqual(self.chosen(("want-tongue", "*;0")), [])
        self.assertEqual(self.chosen(variants=[]), [])

    def test_equal_scores(self):
        same = [Variant("a", "a", "a", str(at), weight=at // 2 + 1) for at in range(6)]
        self.assertEqual(self.chosen(variants=same), [4, 5, 2, 3, 0, 1])
        self.assertEqual(self.chosen(("want-form", "a;0"), variants=same), [])

    def test_least_score(self):
        one = [Variant("a", "a", "a", "", weight=1)]
        wants = [(name, "a;1") for name in ("want-form", "want-tongue", "want-coding")]
        self.assertEqual(self.chosen(*wants, variants=one), [0])

    def test_method_makes_no_difference(self):
        for method in Request.METHODS:
            self.assertEqual(self.chosen(("want-form", "text"), method=method), [1, 0])

    def test_ranking_step_by_step(self):
        steps = ranking(self.VARIANTS, Request.fetch("/a"))
        self.assertEqual([next(steps), next(steps), next(steps), next(steps)], [1, 3, 2, 0])
        self.assertIsNone(next(steps, None))

    def test_against_all_scores(self):
        rng = random.Random(32)
        words = ("a", "a-b", "b", "*")
        for _ in range(200):
            variants = [Variant(*rng.choices(words[:3], k=3), "", weight=rng.randrange(1, 5)) for _ in range(5)]
            wants = {name: read_preferences(", ".join(f"{rng.choice(words)};{rng.randrange(4)}" for _ in range(2)))
                     for name in ("want-form", "want-tongue", "want-coding")}
            fields = [(name, ", ".join(f"{word};{worth}" for word, worth in pairs))
                      for name, pairs in wants.items()]
            scores = [one.weight * quality(wants["want-form"], one.form) * quality(wants["want-tongue"], one.tongue)
                      * quality(wants["want-coding"], one.coding) for one in variants]
            wanted = sorted((-score, at) for at, score in enumerate(scores) if score)
            self.assertEqual(self.chosen(*fields, variants=variants), [at for _, at in wanted])
