"""[12], [13] and [19]: the errors of put, without, wish, changes and merge, in their order; lists that stand for tuples."""

import unittest

from layeredwords.editing import put, without
from layeredwords.errors import BadLine, BadValue, TooMany
from layeredwords.merging import merge
from layeredwords.wishes import changes, wish
from test_arguments import DEEP, NO_NAMES, NO_READERS, Errors

# Each function that takes a text first, and what stands behind it.
TEXTS = ((put, ("x", "set", ("a",))), (without, ("x",)), (merge, ("", "")))
WRONG_BEHIND = ((put, (None, None, None)), (without, ("x.",)), (merge, ("bad", None)))
NO_STRINGS = (None, True, False, 0, -1, 10 ** 30, (), [], ("x = a\n",), ["x = a\n"], [[]], DEEP)
NO_LAYERS = (
    None, True, False, 0, 1, "", "0", "01", (True,), (False,), (0, True), (None,), ("0",), ("",), ((),), ([0],), [[]], (-1,),
    (3,), (0, 3), (10 ** 30,), (-10 ** 30, 0), (0, 0), (1, 0), (0, 2, 1), (0, 1, 1), (0, None), (0, "1"), DEEP, [DEEP],
    list(range(20000)),
)
NO_ITEMS = (
    True, False, 0, "", "a", (None,), (True,), (1,), ((),), (("a",),), [[]], ("",), ("a", ""), ("a.",), ("a b",), ("a,",),
    ("a\n",), ("a" * 41,), ("a", None), ("a#",), (" a",), DEEP, ["a"] * 19000 + [""],
)
NO_WORDS = (
    None, True, 0, "", "Set", "set ", "SET", "=", "+=", "sets", "add", "when", "end", "is", (), [], ("set",), ["lock"], DEEP, "nothing",
)
STACK = ("x = a\n", "", "x = b\n")


class Texts(Errors):
    def test_no_strings(self):
        for text in NO_STRINGS:
            for function, behind in TEXTS + WRONG_BEHIND:
                self.raises(BadValue, {"at": 1}, function, text, *behind)

    def test_lines(self):
        for text in ("\n" * 2001, "x = a\n" * 2001, "bad\n" * 2001, "\n" * 2000 + "x", "end\n" * 15000):
            for function, behind in TEXTS + WRONG_BEHIND:
                self.raises(TooMany, {"word": "lines"}, function, text, *behind)
        for text in ("\n" * 2000, "x = a\n" * 2000):
            for function, behind in TEXTS:
                function(text, *behind)

    def test_lines_without_a_form(self):
        when = "when os is a\n"
        for text, at in (
            ("bad\n", 0), ("x = a", 0), ("x = a\n\nend\n", 2), (when, 0), ("# c\n" + when + when + "end\n", 1), (when * 21 + "end\n" * 21, 20),
            ("\n" * 1999 + "#", 1999), ("x = a \n", 0), ("[s\n", 0), ("x = a\nlock\n", 1), ("\t\n", 0), ("x = a\nbad\nend\n", 1),
        ):
            for function, behind in TEXTS + WRONG_BEHIND:
                self.raises(BadLine, {"layer": 0, "at": at}, function, text, *behind)


class Edits(Errors):
    def test_no_names(self):
        for name in NO_NAMES:
            for text in ("", "x = a\n"):
                self.raises(BadValue, {"at": 2}, put, text, name, "set", ("a",))
                self.raises(BadValue, {"at": 2}, put, text, name, None, None)
                self.raises(BadValue, {"at": 2}, without, text, name)

    def test_no_words(self):
        for word in NO_WORDS:
            self.raises(BadValue, {"at": 3}, put, "", "x", word, ("a",))
            self.raises(BadValue, {"at": 3}, put, "", "x", word, None)

    def test_no_items(self):
        for items in NO_ITEMS + (None,):
            for word in ("set", "append", "prepend", "drop", "default", "unset", "lock"):
                self.raises(BadValue, {"at": 4}, put, "", "x", word, items)

    def test_items_that_do_not_fit(self):
        for items in ((), []):
            for word in ("append", "prepend", "drop"):
                self.raises(BadValue, {"at": 4}, put, "", "x", word, items)
        for items in (("a",), ["a", "b"]):
            for word in ("unset", "lock"):
                self.raises(BadValue, {"at": 4}, put, "", "x", word, items)


class Wishes(Errors):
    def test_no_layers(self):
        for free in NO_LAYERS:
            self.raises(BadValue, {"at": 2}, wish, STACK, free, (), "x", ("b",))
            self.raises(BadValue, {"at": 2}, wish, STACK, free, None, None, 0)
        for free in ((0,), [0], (-1,)):
            self.raises(BadValue, {"at": 2}, wish, (), free, (), "x", None)

    def test_layers(self):
        for free in ((), [], (0,), (1,), (2,), (0, 2), [1, 2], (0, 1, 2)):
            self.assertEqual(wish(STACK, free, (), "x", ("b",)), ("seen",))
        self.assertEqual(wish(("",) * 40, list(range(40)), (), "x", None), ("seen",))

    def test_no_numbers_of_layers(self):
        for below in (None, True, False, "", "0", "1", (), (0,), [0], [], -1, 4, 40, 10 ** 30, -10 ** 30, DEEP):
            self.raises(BadValue, {"at": 2}, changes, STACK, below, (), "x")
            self.raises(BadValue, {"at": 2}, changes, STACK, below, None, None)
        for below in (-1, 1):
            self.raises(BadValue, {"at": 2}, changes, (), below, (), "x")
        for below in (0, 1, 2, 3):
            changes(STACK, below, (), "x")

    def test_no_readers(self):
        for reader in NO_READERS:
            self.raises(BadValue, {"at": 3}, wish, STACK, (0,), reader, "x", ("b",))
            self.raises(BadValue, {"at": 3}, wish, STACK, (), reader, None, 0)
            self.raises(BadValue, {"at": 3}, changes, STACK, 0, reader, "x")
            self.raises(BadValue, {"at": 3}, changes, STACK, 3, reader, None)

    def test_no_names(self):
        for name in NO_NAMES:
            self.raises(BadValue, {"at": 4}, wish, STACK, [0], (("os", "a"),), name, ("b",))
            self.raises(BadValue, {"at": 4}, wish, STACK, (), (), name, 0)
            self.raises(BadValue, {"at": 4}, changes, STACK, 0, [["os", "a"]], name)

    def test_no_values(self):
        for wanted in NO_ITEMS:
            self.raises(BadValue, {"at": 5}, wish, STACK, (0, 2), (), "x", wanted)
            self.raises(BadValue, {"at": 5}, wish, (), (), (), "x", wanted)

    def test_stacks_come_first(self):
        for function, behind in ((wish, (None, None, None, 0)), (changes, (None, None, None))):
            self.raises(BadValue, {"at": 1}, function, "x = a\n", *behind)
            self.raises(TooMany, {"word": "layers"}, function, ("bad",) * 41, *behind)
            self.raises(TooMany, {"word": "lines"}, function, ("bad\n" * 1000,) * 3, *behind)
            self.raises(BadLine, {"layer": 1, "at": 0}, function, ("", "bad\n"), *behind)

    def test_many_readers_are_no_error(self):
        many = "".join(f"when {fact} is v\nend\n" for fact in "abcdefghij")
        self.assertEqual(wish((many,), (0,), (), "x", ()), ("line", 0, many + "x =\n"))
        self.assertEqual(changes((many,), 0, (), "x"), ("", "x =\n"))
        self.assertEqual(put(many, "x", "set", ()), many + "x =\n")
        self.assertEqual(without(many, "x"), many)


class Lists(unittest.TestCase):
    def test_lists_are_as_tuples_and_stay_as_they_are(self):
        for function, tuples in (
            (wish, (STACK, (0, 1), (("os", "a"), ("pc", "b")), "x", ("a",))), (wish, (STACK, (0, 2), (), "x", ("a", "c"))),
            (wish, (STACK, (0,), (("os", "a"),), "x", None)), (changes, (("", "x -= a\n"), 1, (("os", "a"),), "x")),
            (changes, (STACK, 0, (), "x")), (put, ("", "s.x", "append", ("a", "b"))), (put, ("", "x", "lock", ())),
        ):
            lists = [self.as_lists(argument) for argument in tuples]
            kept = repr(lists)
            self.assertEqual(function(*lists), function(*tuples))
            self.assertEqual(repr(lists), kept)

    def as_lists(self, value):
        return [self.as_lists(part) for part in value] if isinstance(value, tuple) else value


if __name__ == "__main__":
    unittest.main()
