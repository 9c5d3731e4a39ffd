"""[12] and [19]: the errors of the functions that take stacks, readers and names, in their order."""

import unittest

from layeredwords.comparing import alike, apart, meaning
from layeredwords.errors import BadLine, BadValue, TooMany
from layeredwords.normal import normal, normal_text
from layeredwords.readers import facts_of, names_of, readers
from layeredwords.seeing import see, why
from layeredwords.wishes import changes, wish

# Each function, what stands ahead of a stack among its arguments, and what stands behind it.
STACKS = (
    (see, (), ((), "x")), (why, (), ((), "x")), (meaning, (), ((), "x")),
    (facts_of, (), ()), (readers, (), ()), (names_of, (), ()),
    (alike, (), ((),)), (alike, ((),), ()), (apart, (), ((),)), (apart, ((),), ()),
    (normal, (), ("x",)), (normal_text, (), ()), (wish, (), ((), (), "x", None)), (changes, (), (0, (), "x")),
)
# The same, with wrong arguments behind the stack.
WRONG_BEHIND = (
    (see, (), (None, 1)), (why, (), ("a", "a.")), (meaning, (), ([[]], ())), (alike, (), (7,)), (apart, (), ("x = a\n",)),
    (alike, (), (("bad\n",),)), (apart, (), (("",) * 41,)), (normal, (), ("",)),
)
DEEP = []
for _ in range(38):
    DEEP = [DEEP]
NO_STACKS = (
    None, True, False, 0, -1, 10 ** 30, "", "x = a\n", "bad", ("x = a\n", None), (None,), (True,), (1,), ((),), ([],),
    [[]], ["", [""]], (("x = a\n",),), ["x = a\n", 0], ("bad", 1), ("",) * 41 + (1,), ("\n" * 2001, None), [DEEP],
    DEEP, list(range(20000)),
)
NO_READERS = (
    None, True, False, 0, "", "os", "os:a", ("os",), ("os", "a"), (("os",),), (("os", "a", "b"),), (("os", 1),),
    ((1, "a"),), (("os", "a.b"),), (("o-s", "a"),), (("9", "a"),), (("os", ""),), (("", "a"),), (None,), ((),), [[]],
    (("os", "a"), ("os", "b")), (("os", "a"), ("os", "a")), (("os", "a"), ("at", "a")), (("a", "a"), ("B", "a")),
    ("ab",), (("os", ("a",)),), [["os", ["a"]]], (("os", "a"), None), (("os", None),), (("a" * 41, "a"),), DEEP,
    (("os", "a b"),), (("os", "a\n"),), (("os ", "a"),), (("os", "a" * 41),),
)
NO_NAMES = (
    None, True, False, 0, 1, "", ".", "x.", ".x", "s..x", "9", "9x", "s.9x", "x-y", "x/y", "x y", " x", "x ", "x\n", "x:",
    "unset", "lock", "when", "end", "s.end", "a.b.c.d.e.x", "x" * 41, "s." + "x" * 41, "a" * 60000, (), [], ("x",),
    ["x"], (("x",),), DEEP, "[s]", "x = a", "s.unset",
)


class Errors(unittest.TestCase):
    def raises(self, error, told, function, *arguments):
        with self.subTest(function=function.__name__, arguments=repr(arguments)[:100]):
            kept = repr(arguments)
            with self.assertRaises(error) as caught:
                function(*arguments)
            self.assertEqual(caught.exception.__dict__, told)
            self.assertIs(type(caught.exception), error)
            self.assertEqual(repr(arguments), kept)

    def each(self, error, told, stack, functions=STACKS + WRONG_BEHIND):
        for function, ahead, behind in functions:
            wanted = {"at": len(ahead) + 1} if error is BadValue else told
            self.raises(error, wanted, function, *ahead, stack, *behind)


class Stacks(Errors):
    def test_no_sequence_of_strings(self):
        for stack in NO_STACKS:
            self.each(BadValue, None, stack)

    def test_layers(self):
        for stack in (("",) * 41, ["x = a\n"] * 41, ("bad\n",) * 50, ("\n" * 60,) * 41):
            self.each(TooMany, {"word": "layers"}, stack)
        for function, ahead, behind in STACKS:
            function(*ahead, ("",) * 40, *behind)

    def test_lines(self):
        for stack in (("\n" * 2001,), ("x = a\n" * 2001,), ("\n" * 50,) * 39 + ("\n" * 51,), ("\n" * 2000, "x"),
                      ("\n" * 2000 + " ",), ["bad\n" * 1000, "", "\n" * 1001], ["end\n" * 15000]):
            self.each(TooMany, {"word": "lines"}, stack)
        for stack in (("\n" * 2000,), ("\n" * 50,) * 40, ["x = a\n" * 1000, "", "x ?= a\n" * 1000]):
            for function, ahead, behind in STACKS:
                function(*ahead, stack, *behind)

    def test_lines_without_a_form(self):
        when, end = "when os is a\n", "end\n"
        for stack, layer, at in (
            (("bad\n",), 0, 0), (("", "x = a\n\nx = a \n", "bad\n"), 1, 2), (["x = a", "bad\n"], 0, 0),
            (("x = a\n", "y = b\nlock y"), 1, 1), ((end,), 0, 0), (("", when), 1, 0), ((when + end, "\n" + when), 1, 1),
            ((when, end), 0, 0), (("\n" * 1999, "bad"), 1, 0), (("\n" * 1999 + "#",), 0, 1999),
            ((when * 21 + end * 21,), 0, 20), (("x = a\n", "[s\n"), 1, 0), (("",) * 39 + ("lock\n",), 39, 0),
        ):
            self.each(BadLine, {"layer": layer, "at": at}, stack)

    def test_the_second_stack(self):
        for function in (alike, apart):
            self.raises(BadLine, {"layer": 0, "at": 1}, function, ("x = a\n",) * 3, ("\nbad\n",))
            self.raises(BadLine, {"layer": 2, "at": 0}, function, (), ["", "", "bad\n"])
            self.raises(BadLine, {"layer": 1, "at": 0}, function, ("", "bad\n"), ("", "", "bad\n"))
            self.raises(BadLine, {"layer": 0, "at": 0}, function, ("bad\n",), None)
            self.raises(TooMany, {"word": "layers"}, function, ("",) * 41, None)
            self.raises(TooMany, {"word": "lines"}, function, ("\n" * 2001,), ("",) * 41)
            self.raises(TooMany, {"word": "layers"}, function, ("",), ("",) * 41)
            self.raises(BadValue, {"at": 1}, function, None, None)
            self.raises(BadValue, {"at": 2}, function, ("",), "")

    def test_both_stacks_together_have_no_such_limits(self):
        for function, wanted in ((alike, True), (apart, None)):
            self.assertIs(function(("x = a\n",) * 40, ("x = a\n",) * 40), wanted)
            self.assertIs(function(("x = a\n" * 2000,), ("x = a\n" * 2000,)), wanted)


class ReadersAndNames(Errors):
    def test_no_readers(self):
        for reader in NO_READERS:
            for function in (see, why, meaning):
                self.raises(BadValue, {"at": 2}, function, ("x = a\n",), reader, "x")
                self.raises(BadValue, {"at": 2}, function, (), reader, None)

    def test_no_names(self):
        for name in NO_NAMES:
            for function in (see, why, meaning):
                self.raises(BadValue, {"at": 3}, function, ("x = a\n",), (("os", "a"),), name)
            self.raises(BadValue, {"at": 2}, normal, ("x = a\n",), name)

    def test_stacks_come_first(self):
        for function in (see, why, meaning):
            self.raises(BadLine, {"layer": 0, "at": 0}, function, ("bad\n",), None, None)
            self.raises(TooMany, {"word": "lines"}, function, ("\n" * 2001,), None, None)
            self.raises(TooMany, {"word": "layers"}, function, ("\n" * 2001,) * 41, "", "")
            self.raises(BadValue, {"at": 1}, function, "bad", None, None)

    def test_readers_come_behind_the_other_errors(self):
        many = "".join(f"when {fact} is v\nend\n" for fact in "abcdefghij")
        for function, ahead, behind in STACKS:
            if function not in (see, why, meaning, facts_of, names_of, wish, changes):
                self.raises(TooMany, {"word": "readers"}, function, *ahead, (many,), *behind)
                self.raises(BadLine, {"layer": 1, "at": 2}, function, *ahead, (many, "x = a\n\nbad\n"), *behind)
                self.raises(TooMany, {"word": "lines"}, function, *ahead, (many * 101,), *behind)
            else:
                function(*ahead, (many,), *behind)
        self.raises(BadValue, {"at": 2}, normal, (many,), None)
        self.raises(BadValue, {"at": 2}, alike, (many,), None)
        self.raises(TooMany, {"word": "layers"}, apart, (many,), ("",) * 41)


if __name__ == "__main__":
    unittest.main()
