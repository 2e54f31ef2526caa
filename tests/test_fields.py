"""[2], [5], [8], [20]: the forms of texts, names, values, lists and numbers."""

import unittest

from hopkeep.fields import (is_field_name, is_path, is_plain, is_value, list_elements,
                            read_number, read_reading)

STRANGE = ["%", "\t", "\n", "\r", "\x00", "\x1f", "\x7f", "\x80", "\xa0", "\u00e9", "\u0663",
           "\u2028", "\U0001f600"]


class PlainTest(unittest.TestCase):
    def test_exactly_the_plain_characters(self):
        plain = [chr(code) for code in range(0x300) if is_plain(chr(code))]
        self.assertEqual(plain, [chr(code) for code in range(32, 127) if chr(code) != "%"])

    def test_texts(self):
        for text in ("", " ", "a b~", "x" * 1000):
            self.assertIs(is_plain(text), True, text)

    def test_one_other_character_anywhere(self):
        for sign in STRANGE:
            for text in (sign, sign + "a", "a" + sign, "a" + sign + "b"):
                self.assertIs(is_plain(text), False, repr(text))


class PathTest(unittest.TestCase):
    def test_good(self):
        for text in ("/", "/a", "//", "/a/b-c.d/0", "/" + "z" * 59, "/.", "/-"):
            self.assertIs(is_path(text), True, text)

    def test_bad(self):
        for text in ("", "a", "a/", " /", "/a ", "/A", "/a_b", "/a b", "/a?", "/" + "z" * 60):
            self.assertIs(is_path(text), False, text)

    def test_strange_signs(self):
        for sign in STRANGE:
            self.assertIs(is_path("/" + sign), False, repr(sign))
            self.assertIs(is_path("/a" + sign + "b"), False, repr(sign))


class FieldNameTest(unittest.TestCase):
    def test_good(self):
        for text in ("a", "z9", "a-b", "a-", "a--0", "x" * 30, "lengths", "length-", "chunks"):
            self.assertIs(is_field_name(text), True, text)

    def test_bad(self):
        for text in ("", "length", "A", "aB", "9a", "-a", "a.b", "a_b", "a b", " a", "a ", "a:",
                     "x" * 31):
            self.assertIs(is_field_name(text), False, text)

    def test_strange_signs(self):
        for sign in STRANGE:
            self.assertIs(is_field_name(sign), False, repr(sign))
            self.assertIs(is_field_name("a" + sign), False, repr(sign))


class ValueTest(unittest.TestCase):
    def test_good(self):
        for text in ("", "a", "a  b", "~", ":", "x" * 200, "a" + " " * 198 + "b"):
            self.assertIs(is_value(text), True, text)

    def test_bad(self):
        for text in (" ", " a", "a ", "x" * 201, "a" + " " * 199 + "b"):
            self.assertIs(is_value(text), False, text)

    def test_strange_signs(self):
        for sign in STRANGE:
            for text in (sign, "a" + sign, sign + "a", "a" + sign + "b"):
                self.assertIs(is_value(text), False, repr(text))


class ListTest(unittest.TestCase):
    def test_example(self):
        self.assertEqual(list_elements("a, ,b ,"), ["a", "b"])

    def test_lists(self):
        cases = {"": [], " ": [], ",": [], " , ,, ": [], "a": ["a"], "a,a": ["a", "a"],
                 "  a b  ,c": ["a b", "c"], "b,a": ["b", "a"], ";,=": [";", "="]}
        for text, found in cases.items():
            self.assertEqual(list_elements(text), found, text)


class NumberTest(unittest.TestCase):
    def test_good(self):
        for text in ("0", "1", "9", "10", "90", "123456", "999999"):
            self.assertEqual(read_number(text), int(text))

    def test_bad(self):
        for text in ("", "00", "01", "000000", "1000000", "0000001", "-1", "-0", "+1", "1 ", " 1",
                     "1_0", "a", "1a", "0x1", "1.", "--1"):
            self.assertIsNone(read_number(text), text)

    def test_strange_signs(self):
        for sign in STRANGE + ["\u00b2"]:
            for text in (sign, "1" + sign, sign + "1"):
                self.assertIsNone(read_number(text), repr(text))
                self.assertIsNone(read_reading(text), repr(text))


class ReadingTest(unittest.TestCase):
    def test_example(self):
        self.assertEqual([read_reading("-12"), read_reading("-0")], [-12, None])

    def test_good(self):
        for text in ("0", "7", "999999", "-1", "-10", "-999999"):
            self.assertEqual(read_reading(text), int(text))

    def test_bad(self):
        for text in ("", "-", "-0", "-00", "-01", "01", "--1", "- 1", "-1 ", " -1", "+1", "-a",
                     "1000000", "-1000000", "1-", "5, 6"):
            self.assertIsNone(read_reading(text), text)
