"""[14], [18] and [20]: items, names and readers."""

import string
import unittest

from layeredwords.texts import is_item, is_name, is_reader, is_text

SIGNS = string.printable[:95] + "\t\n"
PLAIN = string.ascii_letters + string.digits + "_"
WORD = PLAIN + "-/"
ITEM = WORD + ".:@"

NO_STRINGS = (
    0, 1, -1, 10 ** 30, True, False, None, (), [], ("a",), ["a"], (("os", 1),), [[[[]]]],
    (("a", "b"), ("a", "c")), ((("a", "b"),),), ["a", ["b", ("c", None)]],
)


class Whether(unittest.TestCase):
    def says(self, function, wanted, values):
        for value in values:
            with self.subTest(value=value):
                self.assertIs(function(value), wanted)

    def yes(self, function, *values):
        self.says(function, True, values)

    def no(self, function, *values):
        self.says(function, False, values)


class Items(Whether):
    def test_each_sign(self):
        for sign in SIGNS:
            with self.subTest(sign=sign):
                self.assertIs(is_item("a" + sign + "b"), sign in ITEM)
                self.assertIs(is_item(sign + "b"), sign in ITEM)
                self.assertIs(is_item("a" + sign), sign in ITEM and sign != ".")
                self.assertIs(is_item(sign), sign in ITEM and sign != ".")

    def test_lengths(self):
        self.yes(is_item, "a", "7", "-", "a" * 40)
        self.no(is_item, "", "a" * 41, "a" * 60000)

    def test_dots(self):
        self.yes(is_item, ".a", "..a", "a.b", "a..b", ".a:@", "a" * 38 + ".b")
        self.no(is_item, ".", "a.", "..", "a..", "a" * 39 + ".")

    def test_words_that_are_no_keys(self):
        self.yes(is_item, "unset", "lock", "when", "end", "not", "is", "new0", "None")

    def test_no_strings(self):
        self.no(is_item, *NO_STRINGS)


class Names(Whether):
    def test_each_sign_of_a_key(self):
        for sign in SIGNS:
            with self.subTest(sign=sign):
                self.assertIs(is_name("a" + sign + "b"), sign in PLAIN + ".")
                self.assertIs(is_name("a" + sign), sign in PLAIN)
                self.assertIs(is_name(sign), sign in string.ascii_letters + "_")
                self.assertIs(is_name("s." + sign), sign in string.ascii_letters + "_")

    def test_each_sign_of_a_section(self):
        for sign in SIGNS:
            with self.subTest(sign=sign):
                self.assertIs(is_name("a" + sign + ".k"), sign in PLAIN)
                self.assertIs(is_name(sign + "a.k"), sign in string.ascii_letters + "_")

    def test_lengths_of_words(self):
        long = "a" * 40
        self.yes(is_name, "a", long, "a.b", ".".join([long] * 5), "_", "_0", "a0")
        self.no(is_name, "", "a" * 41, "s." + "a" * 41, "a" * 41 + ".k", "a" * 60000, "." * 60000)

    def test_how_many_words(self):
        self.yes(is_name, "k", "a.k", "a.b.k", "a.b.c.k", "a.b.c.d.k")
        self.no(is_name, "a.b.c.d.e.k", "a.b.c.d.e.f.k")

    def test_dots(self):
        self.no(is_name, ".", ".k", "k.", "a..k", ".a.k", "a.k.", "..")

    def test_digits_ahead(self):
        self.no(is_name, "0", "0a", "a.0k", "0a.k", "a.9.k")
        self.yes(is_name, "a0.k9")

    def test_words_that_are_no_keys(self):
        for word in ("unset", "lock", "when", "end"):
            self.no(is_name, word, "s." + word, "a.b.c.d." + word)
            self.yes(is_name, word + ".k", "a." + word + ".k", word + "s", word.upper(), word + "_")
        self.yes(is_name, "not", "is", "not.is", "set", "drop", "default")

    def test_no_strings(self):
        self.no(is_name, *NO_STRINGS)


class Readers(Whether):
    def test_ordinary(self):
        self.yes(is_reader, (), [], (("os", "a"),), [["os", "a"]], (["os", "a"],), [("os", "a")])
        self.yes(is_reader, (("a", "x"), ("b", "x"), ("c", "y")), (("os", "not"), ("when", "end")))

    def test_order_of_facts(self):
        self.no(is_reader, (("b", "x"), ("a", "x")), (("a", "x"), ("c", "x"), ("b", "x")))
        self.yes(is_reader, (("B", "x"), ("a", "x")), (("_", "x"), ("a", "x")), (("a", "x"), ("a0", "x")))
        self.no(is_reader, (("a", "x"), ("B", "x")), (("a0", "x"), ("a", "x")))

    def test_a_fact_twice(self):
        self.no(is_reader, (("a", "x"), ("a", "y")), (("a", "x"), ("a", "x")), (("a", "y"), ("a", "x")))

    def test_facts_are_plain_words(self):
        self.yes(is_reader, (("a" * 40, "x"),), (("_9", "x"),))
        self.no(is_reader, (("", "x"),), (("a" * 41, "x"),), (("a-b", "x"),), (("a/b", "x"),))
        self.no(is_reader, (("9", "x"),), (("9a", "x"),), (("a.b", "x"),), ((" a", "x"),), (("a:b", "x"),))

    def test_values_are_words(self):
        for sign in SIGNS:
            with self.subTest(sign=sign):
                self.assertIs(is_reader((("os", sign),)), sign in WORD)
                self.assertIs(is_reader((("os", "a" + sign),)), sign in WORD)
        self.yes(is_reader, (("os", "a" * 40),), (("os", "9"),))
        self.no(is_reader, (("os", ""),), (("os", "a" * 41),), (("os", "a.b"),))

    def test_pairs(self):
        self.no(is_reader, ("ab",), "ab", "", ("os", "a"), (("os",),), (("os", "a", "b"),), ((),), ([],))
        self.no(is_reader, (("os", 1),), (("os", None),), ((1, "a"),), ((True, False),), ((("os",), "a"),))
        self.no(is_reader, (("os", ("a",)),), (("os", "a"), None), (("os", "a"), 1), (("os", "a"), "pq"))
        self.no(is_reader, ((None, None),), (("os", ["a"]),), {"os": "a"})

    def test_no_readers(self):
        self.no(is_reader, *[value for value in NO_STRINGS if value not in ((), [])])
        self.no(is_reader, "os", "os:a", "a" * 60000)


class NoTexts(Whether):
    def test_no_strings(self):
        self.no(is_text, *NO_STRINGS)

    def test_deep_values(self):
        deep = []
        for _ in range(39):
            deep = [deep]
        for function in (is_item, is_name, is_reader, is_text):
            self.no(function, deep, (deep,))


if __name__ == "__main__":
    unittest.main()
