"""[41] to [43] wish, [44] changes; and of part 2, [7] one line and [8] kept."""

import itertools
import random
import unittest

import plain_edits
import plainly
from layeredwords.comparing import meaning
from layeredwords.meanings import trials
from layeredwords.texts import is_text, lines_of
from layeredwords.wishes import changes, wish

AT_A = (("os", "a"),)
WANTED = (None, (), ("a",), ("b",), ("c",), ("a", "b"), ("b", "a"), ("a", "a"), ("b", "c", "a"))
LOCKED = ("around", (), (), (), None, True)


class Seen(unittest.TestCase):
    def test_seen(self):
        for stack, wanted in (
            ((), None), (("",), None), (("x = a\n",), ("a",)), (("x =\n",), ()), (("x = a\nunset x\n",), None),
            (("x = a\n", "x += b\nlock x\nx = c\n"), ("a", "b")), (("lock x\nx = a\n",), None), (("y = a\n",), None),
        ):
            for free in ((), tuple(range(len(stack))), list(range(len(stack)))):
                self.assertEqual(wish(stack, free, (), "x", wanted), ("seen",))
        self.assertEqual(wish(["x = a, b\n"], [0], [], "x", ["a", "b"]), ("seen",))
        self.assertEqual(wish(stack=("x = a\n",), free=(), reader=(), name="x", wanted=("a",)), ("seen",))

    def test_seen_by_the_reader(self):
        stack = ("x = a\nwhen os is a\nx = b\nend\n",)
        self.assertEqual(wish(stack, (0,), AT_A, "x", ("b",)), ("seen",))
        self.assertEqual(wish(stack, (0,), (), "x", ("a",)), ("seen",))
        self.assertEqual(wish(stack, (), (), "x", ("b",)), ("barred", ()))
        self.assertEqual(wish(stack, (), AT_A, "x", ("a",)), ("barred", ()))


class Lines(unittest.TestCase):
    def one(self, text, wanted, told, reader=(), name="x"):
        self.assertEqual(wish((text,), (0,), reader, name, wanted), ("line", 0, told))
        self.assertEqual(plainly.seen((told,), reader, name), wanted)

    def test_at_the_end(self):
        self.one("", ("a",), "x = a\n")
        self.one("", (), "x =\n")
        self.one("x = a\n", ("b", "c"), "x = a\nx = b, c\n")
        self.one("x = a\n# c\n\n", ("a", "a"), "x = a\n# c\n\nx = a, a\n")
        self.one("[s]\nx = a\n", ("b",), "[s]\nx = a\n[]\nx = b\n")
        self.one("[s]\nx = a\n", ("b",), "[s]\nx = a\nx = b\n", name="s.x")
        self.one("[s]\nx = a\n[t]\n", ("b",), "[s]\nx = a\n[t]\n[s]\nx = b\n", name="s.x")
        self.one("", ("b",), "[s.t]\nx = b\n", name="s.t.x")
        self.one("when os is a\n[s]\nx = a\nend\n", ("b",), "when os is a\n[s]\nx = a\nend\nx = b\n", AT_A, "s.x")

    def test_unset_at_the_end(self):
        self.one("x = a\n", None, "x = a\nunset x\n")
        self.one("x ?=\n", None, "x ?=\nunset x\n")
        self.one("[s]\nx = a\n[]\n", None, "[s]\nx = a\n[]\n[s]\nunset x\n", name="s.x")

    def test_ahead_of_the_lock(self):
        self.one("lock x\n", ("a",), "x = a\nlock x\n")
        self.one("x = a\n  lock x # c\nx = d\n", ("b",), "x = a\nx = b\n  lock x # c\nx = d\n")
        self.one("x = a\nlock x\nlock x\n", None, "x = a\nunset x\nlock x\nlock x\n")
        self.one("x = a\nlock x\nx = d\n", ("d",), "x = a\nx = d\nlock x\nx = d\n")
        self.one("[s]\nx = a\nlock x\n[]\n", ("b",), "[s]\nx = a\nx = b\nlock x\n[]\n", name="s.x")
        self.one("lock y\nx = a\n[s]\nlock x\n", ("b",), "lock y\nx = a\n[s]\nlock x\n[]\nx = b\n")

    def test_ahead_of_a_lock_within_a_when(self):
        text = "x = a\nwhen os is a\n# c\n  lock x\nend\nx = b\nlock x\n"
        self.one(text, ("c",), "x = a\nwhen os is a\n# c\nx = c\n  lock x\nend\nx = b\nlock x\n", AT_A)
        self.one(text, ("b",), "x = a\nwhen os is a\n# c\nx = b\n  lock x\nend\nx = b\nlock x\n", AT_A)
        self.one(text, ("c",), "x = a\nwhen os is a\n# c\n  lock x\nend\nx = b\nx = c\nlock x\n")

    def test_a_lock_that_does_not_hold(self):
        text = "when os is a\nlock x\nend\nx = a\n"
        self.one(text, ("c",), text + "x = c\n")
        self.one(text, ("c",), "when os is a\nx = c\nlock x\nend\nx = a\n", AT_A)
        self.one("when os is not a\nlock x\nend\n", ("c",), "when os is not a\nlock x\nend\nx = c\n", AT_A)


class Middles(unittest.TestCase):
    def below(self, low, high, wanted, told):
        """What is told if the lower one of two layers is free; told is its text."""
        self.assertEqual(wish((low, high), (0,), (), "x", wanted), ("line", 0, told))
        self.assertEqual(plainly.seen((told, high), (), "x"), wanted)

    def barred(self, low, high, wanted):
        # The lowest layer has a value that is not wanted: otherwise, a lock ahead of all lines would do it.
        above = meaning((high,), (), "x")
        self.assertEqual(wish(("x = k\n", low, high), (1,), (), "x", wanted), ("barred", (("covered", above),)))

    def test_middles(self):
        around = "x -= d\nx ^= p\nx += q\n"
        self.below("", around, ("p", "m", "q"), "x = m\n")
        self.below("", around, ("p", "m", "p", "q", "q"), "x = m, p, q\n")
        self.below("x = z\n", around, ("p", "q"), "x = z\nx =\n")
        self.below("[s]\n", around, ("p", "q", "p", "q"), "[s]\n[]\nx = q, p\n")
        for wanted in (None, (), ("p",), ("q",), ("m",), ("q", "p"), ("m", "p", "q"), ("p", "q", "m"), ("p", "d", "q")):
            self.barred("x = z\n", around, wanted)

    def test_before_and_behind_may_not_overlap(self):
        self.barred("x = z\n", "x ^= p\nx += p\n", ("p",))
        self.below("x = z\n", "x ^= p\nx += p\n", ("p", "p"), "x = z\nx =\n")
        self.barred("x = z\n", "x ^= p, q\nx += q, p\n", ("p", "q", "p"))

    def test_dropped_items(self):
        self.barred("", "x -= d\n", ("d",))
        self.barred("", "x -= d\n", ("a", "d", "a"))
        self.below("", "x -= d\nx += d\n", ("a", "d"), "x = a\n")
        self.barred("", "x -= d\nx += d\n", ("d", "d"))

    def test_unset_lets_the_default_be_seen(self):
        self.below("x = z\n", "x -= d\nx ?= d\n", ("d",), "x = z\nunset x\n")
        self.below("x = z\n", "x -= d\nx ?= d\nx ^= p\n", ("p", "d"), "x = z\nunset x\n")
        self.below("x = z\n", "x ?= d\n", ("d",), "x = z\nx = d\n")
        self.below("x = z\n", "x -= d\n", None, "x = z\nunset x\n")
        self.barred("x = z\n", "x ?= d\n", None)
        self.barred("x = z\n", "x += d\n", None)

    def test_what_stands_above_a_lock_is_not_asked_for(self):
        self.below("x = a\n", "x += q\nlock x\nx = c\n", ("b", "q"), "x = a\nx = b\n")
        self.barred("x = a\n", "x += q\nlock x\nx = c\n", ("c",))


class Locking(unittest.TestCase):
    def test_behind_the_last_statement(self):
        for low, told in (
            ("x = a\n", "x = a\nlock x\n"),
            ("x = a\nx = b\nx = a\nx += c\n", "x = a\nx = b\nx = a\nlock x\nx += c\n"),
            ("x = a\nx -= b\nx = c\n", "x = a\nx -= b\nlock x\nx = c\n"),
            ("  x = a # c\n# d\n\nx = c\n", "  x = a # c\nlock x\n# d\n\nx = c\n"),
            ("x = a\ny = a\n[s]\nx = a\n", "x = a\nlock x\ny = a\n[s]\nx = a\n"),
            ("when os is a\nx = a\nend\nx += b\n", "when os is a\nx = a\nlock x\nend\nx += b\n"),
            ("x = a\nwhen os is b\nx = a\nend\nx = c\n", "x = a\nlock x\nwhen os is b\nx = a\nend\nx = c\n"),
        ):
            for high in ("x = c\n", "unset x\n", "x -= a\nx += b\n", "x = c\nlock x\n"):
                self.assertEqual(wish((low, high), (0,), AT_A, "x", ("a",)), ("line", 0, told))
                self.assertEqual(plainly.seen((told, high), AT_A, "x"), ("a",))

    def test_in_a_section(self):
        told = "[s]\nx = a\nlock x\nx = b\n"
        self.assertEqual(wish(("[s]\nx = a\nx = b\n", "[s]\nx = c\n"), (0,), (), "s.x", ("a",)), ("line", 0, told))

    def test_ahead_of_all_lines(self):
        stack = ("x = a\n[s]\nx = a\n", "# c\nx = b\n[s]\nx = b\n", "x = c\n[s]\nx = c\n")
        self.assertEqual(wish(stack, (1,), (), "x", ("a",)), ("line", 1, "lock x\n" + stack[1]))
        self.assertEqual(wish(stack, (1,), (), "s.x", ("a",)), ("line", 1, "[s]\nlock x\n[]\n" + stack[1]))
        self.assertEqual(wish(stack, (0,), (), "s.x", None), ("line", 0, "[s]\nlock x\n[]\n" + stack[0]))
        self.assertEqual(wish(stack, (0,), (), "x", None), ("line", 0, "lock x\n" + stack[0]))
        self.assertEqual(wish(("x = a\n", "", "x = b\n"), (1,), (), "x", ("a",)), ("line", 1, "lock x\n"))
        self.assertEqual(wish(("x = a\n", "y = b\n", "x = b\n"), (1,), (), "x", ("a",)), ("line", 1, "lock x\ny = b\n"))

    def test_a_statement_comes_ahead_of_the_beginning(self):
        stack = ("x = a\n", "x -= b\nx = c\nx ?= a\n", "x = c, c\n")
        self.assertEqual(wish(stack, (1,), (), "x", ("a",)), ("line", 1, "x -= b\nlock x\nx = c\nx ?= a\n"))

    def test_a_line_that_sets_comes_first(self):
        self.assertEqual(wish(("x = a\nx = b\n", "x ?= c\n"), (0,), (), "x", ("a",)), ("line", 0, "x = a\nx = b\nx = a\n"))


class Layers(unittest.TestCase):
    def test_the_highest_that_does_it(self):
        stack = ("x = a\n", "x = b\n", "# c\n", "x += c\n")
        for free, wanted, layer, told in (
            ((0, 1, 2, 3), ("d",), 3, "x += c\nx = d\n"), ((0, 1, 2), ("d", "c"), 2, "# c\nx = d\n"),
            ((0, 1), ("d", "c"), 1, "x = b\nx = d\n"), ((0, 1, 2), ("b",), 2, "lock x\n# c\n"),
            ((0, 1), ("b",), 1, "x = b\nlock x\n"), ((0, 1), ("a",), 1, "lock x\nx = b\n"),
            ((0,), ("a",), 0, "x = a\nlock x\n"), ((0, 1, 2), ("a",), 1, "lock x\nx = b\n"), ([0, 2], ["a"], 0, "x = a\nlock x\n"),
        ):
            with self.subTest(free=free, wanted=wanted):
                self.assertEqual(wish(stack, free, (), "x", wanted), ("line", layer, told))
        reasons = (("covered", ("const", ("b", "c"), False)), ("covered", ("around", (), (), ("c",), (), False)))
        self.assertEqual(wish(stack, (0, 2), (), "x", ("q",)), ("barred", reasons))

    def test_locked_layers_are_passed_over(self):
        stack = ("x = a\n", "lock x\n", "x = b\n")
        self.assertEqual(wish(stack, (0, 1, 2), (), "x", ("c",)), ("line", 1, "x = c\nlock x\n"))
        self.assertEqual(wish(stack, (0, 2), (), "x", ("c",)), ("line", 0, "x = a\nx = c\n"))
        self.assertEqual(wish(stack, (2,), (), "x", ("c",)), ("barred", (("locked", (1, 0)),)))

    def test_reasons(self):
        stack = ("x = a\n", "# c\nx = b\n", "x = c\n\nlock x\nlock x\n", "lock x\n", "x = d\n")
        covered = ("covered", ("const", ("c",), True))
        locked = ("locked", (2, 2))
        self.assertEqual(wish(stack, (0, 1, 3, 4), (), "x", ("q",)), ("barred", (covered, covered, locked, locked)))
        self.assertEqual(wish(stack, (1, 4), (), "x", ("q",)), ("barred", (covered, locked)))
        self.assertEqual(wish(stack, (), (), "x", ("q",)), ("barred", ()))
        self.assertEqual(wish(stack, [], (), "x", None), ("barred", ()))
        self.assertEqual(wish((), (), (), "x", ()), ("barred", ()))
        self.assertEqual(wish(("", "x = b\n"), (0,), (), "x", ("q",)), ("barred", (("covered", ("const", ("b",), False)),)))

    def test_reasons_for_the_reader(self):
        stack = ("when os is a\nlock x\nend\n", "x = b\n", "x -= c\n")
        self.assertEqual(wish(stack, (1,), AT_A, "x", ("c",)), ("barred", (("locked", (0, 1)),)))
        told = ("barred", (("covered", ("around", (), ("c",), (), None, False)),))
        self.assertEqual(wish(stack, (1,), (), "x", ("c",)), told)
        self.assertTrue(plainly.plain(told))

    def test_forty_layers_and_many_lines(self):
        stack = tuple(f"x += i{layer}\n" * 50 for layer in range(40))
        name, wanted = "x", ("z",) + tuple(f"i{layer}" for layer in range(7, 40) for _ in range(50))
        self.assertEqual(wish(stack, tuple(range(40)), (), name, ("z",)), ("line", 39, stack[39] + "x = z\n"))
        self.assertEqual(wish(stack, tuple(range(7)), (), name, wanted), ("line", 6, stack[6] + "x = z\n"))
        told = wish(stack, (3, 5), (), name, ("z",))
        self.assertEqual(told, ("barred", tuple(("covered", meaning(stack[at:], (), name)) for at in (4, 6))))
        self.assertEqual(wish(("\n" * 2000,), (0,), (), "s.x", ()), ("line", 0, "\n" * 2000 + "[s]\nx =\n"))


class AnyStack(unittest.TestCase):
    def test_as_the_document_tells(self):
        rng = random.Random(41)
        found = set()
        for stack in plainly.random_stacks(42, 250, layers=4, most=5):
            for name, reader in itertools.product(("x", "s.x"), ((), AT_A, (("at", "b"), ("os", "b")))):
                free = tuple(layer for layer in range(len(stack)) if rng.random() < 0.6)
                wanted = rng.choice(WANTED)
                told = wish(stack, free, reader, name, wanted)
                with self.subTest(stack=stack, free=free, reader=reader, name=name, wanted=wanted):
                    self.assertEqual(told, plain_edits.wish(stack, free, reader, name, wanted))
                    self.assertTrue(plainly.plain(told))
                    if told[0] == "line":
                        self.one_line(stack, reader, name, wanted, told)
                found.add(told[0])
                if told[0] == "barred":
                    found.update(reason[0] for reason in told[1])
        self.assertEqual(found, {"seen", "line", "barred", "locked", "covered"})

    def one_line(self, stack, reader, name, wanted, told):
        """[7], [10]: the text has one statement more, all other lines stay, and the reader sees wanted."""
        _, layer, text = told
        self.assertTrue(is_text(text))
        self.assertEqual(plainly.seen(plain_edits.exchanged(stack, layer, text), reader, name), wanted)
        self.assertEqual(len(plainly.lines_read(text)[0]), len(plainly.lines_read(stack[layer])[0]) + 1)
        left = iter(lines_of(text))
        self.assertTrue(all(line in left for line in lines_of(stack[layer])))
        self.assertLessEqual(len(lines_of(text)), len(lines_of(stack[layer])) + 3)

    def test_no_other_statement_does_it(self):
        rng = random.Random(43)
        tops = ("x = b\n", "x -= a\n", "x ?= b\nx += a\n", "[s]\nx = b\n", "x = a\nwhen os is a\nx ?= b\nend\n", "unset x\n")
        many = 0
        for stack in plainly.random_stacks(43, 50, layers=2, most=4):
            stack += (rng.choice(tops),)
            name, reader, wanted = rng.choice(("x", "x", "s.x")), rng.choice(((), AT_A)), rng.choice(WANTED)
            told = wish(stack, tuple(range(len(stack) - 1)), reader, name, wanted)
            # The layers in which no line is told to do it.
            lowest = {"seen": len(stack), "barred": 0}.get(told[0])
            for layer in range(told[1] + 1 if lowest is None else lowest, len(stack) - 1):
                for text in plain_edits.one_more(stack[layer], name, "abc"):
                    many += 1
                    self.assertNotEqual(plainly.seen(plain_edits.exchanged(stack, layer, text), reader, name), wanted)
        self.assertGreater(many, 1000)


class Changes(unittest.TestCase):
    def test_const(self):
        for text in ("x = a\n", "x =\n", "unset x\n", "x = a\nx += b\n", "x += b\nunset x\nlock x\n", "x = a\nlock x\nx = b\n"):
            self.assertIsNone(changes((text,), 0, (), "x"))
            self.assertIsNone(changes(("x ?= a\n", "lock x\n", text), 2, (), "x"))
            self.assertIsNone(changes(["", text, "x += a\n"], 1, [], "x"))
            self.assertEqual(changes((text,), 1, (), "x"), ("", "x =\n"))
        self.assertIsNone(changes(stack=("[s]\nx = a\n",), below=0, reader=(), name="s.x"))

    def test_the_first_trial(self):
        for text, told in (
            ("", "x =\n"), ("lock x\n", "x =\n"), ("x -= a\n", "x =\n"), ("x ?= a\n", "x =\n"), ("x ?= a\nx += b\n", "x =\n"),
            ("x -= a\nx ?= b\nlock x\nx = c\n", "x =\n"), ("y = a\n", "x =\n"),
            ("x += b\n", "x = b\n"), ("x ?=\n", "x = new0\n"), ("x += b\nx ^= a\n", "x = a\n"), ("x += B, a\n", "x = B\n"),
            ("x -= b\nx += b\n", "x = new0\n"), ("x -= a\nx += b\n", "x = b\n"), ("x -= a, b\nx += c, b\n", "x = c\n"),
            ("x -= new0\nx ?=\n", "x = new1\n"), ("x -= new0, new1\nx += new0\n", "x = new2\n"), ("x ?=\nlock x\n", "x = new0\n"),
            ("x += b\nlock x\nx = c\n", "x = b\n"),
        ):
            with self.subTest(text=text):
                self.assertEqual(changes((text,), 0, (), "x"), ("", told))
                self.assertEqual(changes(("x = q\nlock x\n", text), 1, (), "x"), ("", told))
        self.assertEqual(changes(("[s.t]\nx += b\n",), 0, (), "s.t.x"), ("", "[s.t]\nx = b\n"))

    def test_below(self):
        stack = ("x += a\n", "x = b\n", "x += c\n")
        self.assertIsNone(changes(stack, 0, (), "x"))
        self.assertIsNone(changes(stack, 1, (), "x"))
        self.assertEqual(changes(stack, 2, (), "x"), ("", "x = c\n"))
        self.assertEqual(changes(stack, 3, (), "x"), ("", "x =\n"))
        self.assertEqual(changes((), 0, (), "x"), ("", "x =\n"))
        self.assertEqual(changes(("",) * 40, 40, (), "x"), ("", "x =\n"))

    def test_many_items(self):
        items = ", ".join(f"i{at}" for at in range(8000))
        self.assertEqual(changes((f"x -= {items}\nx ?=\n",) * 7, 0, (), "x"), ("", "x = new0\n"))
        self.assertEqual(changes((f"x += {items}\n",) * 7, 0, (), "x"), ("", "x = i0\n"))

    def test_for_the_reader(self):
        stack = ("when os is a\nx = b\nend\n",)
        self.assertIsNone(changes(stack, 0, AT_A, "x"))
        self.assertEqual(changes(stack, 0, (), "x"), ("", "x =\n"))

    def test_any_stack(self):
        without_locks = [
            (text,) for stack in plainly.random_stacks(44, 60) for text in stack if "lock" not in text
        ] + [(), ("x = new0\n",), ("x =\n",), ("[s]\nx = a\n",)]
        for stack in plainly.random_stacks(45, 120):
            for below, name, reader in itertools.product(range(len(stack) + 1), ("x", "s.x"), ((), AT_A)):
                told = changes(stack, below, reader, name)
                upper = tuple(stack[below:])
                with self.subTest(stack=stack, below=below, name=name, reader=reader):
                    if told is None:
                        values = {plainly.seen(lower + upper, reader, name) for lower in without_locks}
                        self.assertEqual(len(values), 1)
                        continue
                    alone = plainly.seen(upper, reader, name)
                    tried = [value for value in trials([meaning(upper, reader, name)]) if value is not None]
                    texts = [plain_edits.put("", name, "set", value) for value in tried]
                    differing = [text for text in texts if plainly.seen((text,) + upper, reader, name) != alone]
                    self.assertEqual(told, ("", differing[0]))
                    self.assertTrue(plainly.plain(told))


if __name__ == "__main__":
    unittest.main()
