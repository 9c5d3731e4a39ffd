"""[5], [6], [12], [17], [18], [29] and [30]: what a reader sees, and why."""

import itertools
import unittest

import plainly
from layeredwords.seeing import see, why

HOME = (("place", "home"),)


def of_lines(*lines):
    return "".join(line + "\n" for line in lines)


class Example(unittest.TestCase):
    def test_part_one(self):
        low = "[net]\nhosts = a, b   # both\nport ?= 80\n"
        high = "[net]\nhosts += c\nwhen place is home\nhosts -= b\nend\n"
        self.assertEqual(see((low, high), HOME, "net.hosts"), ("a", "c"))
        self.assertEqual(see((low, high), (), "net.hosts"), ("a", "b", "c"))
        self.assertEqual(see((low, high), (), "net.port"), ("80",))
        self.assertIsNone(see((low, high), (), "hosts"))


class See(unittest.TestCase):
    def sees(self, stack, wanted, reader=(), name="x"):
        with self.subTest(stack=stack, reader=reader):
            self.assertEqual(see(stack, reader, name), wanted)

    def test_set(self):
        self.sees(("x = a\n",), ("a",))
        self.sees(("x = a\n", "x = b, c, b\n"), ("b", "c", "b"))
        self.sees(("x = a\n", "x =\n"), ())
        self.sees(("x = a\nx = b\n",), ("b",))

    def test_append_and_prepend(self):
        self.sees(("x = a\n", "x += b, c\n", "x += a\n"), ("a", "b", "c", "a"))
        self.sees(("x = a\n", "x ^= b, c\n", "x ^= a\n"), ("a", "b", "c", "a"))
        self.sees(("x += b, c\n",), ("b", "c"))
        self.sees(("x ^= b, c\n", "", "x += a\n"), ("b", "c", "a"))

    def test_drop(self):
        self.sees(("x = a, b, a, c\n", "x -= a, c\n"), ("b",))
        self.sees(("x = a\n", "x -= a\n"), ())
        self.sees(("x -= a\n", "x += a\n"), ("a",))
        self.sees(("x -= a\n",), None)
        self.sees(("x = a, b\n", "x -= c\n"), ("a", "b"))

    def test_default(self):
        self.sees(("x ?= a\n", "x ?= b\n"), ("a",))
        self.sees(("x =\n", "x ?= b\n"), ())
        self.sees(("x ?=\n",), ())
        self.sees(("x = a\nunset x\n", "x ?= b\n"), ("b",))
        self.sees(("x += a\n", "x ?= b\n"), ("a",))
        self.sees(("x -= a\n", "x ?= a\n"), ("a",))

    def test_unset(self):
        self.sees(("x = a\n", "unset x\n"), None)
        self.sees(("x = a\n", "unset x\n", "x += b\n"), ("b",))
        self.sees(("unset x\n",), None)

    def test_lock(self):
        self.sees(("x = a\n", "lock x\n", "x = b\n", "unset x\n"), ("a",))
        self.sees(("x = a\nlock x\nx += b\nlock x\n",), ("a",))
        self.sees(("lock x\n", "x = a\n"), None)
        self.sees(("lock y\n", "x = a\n"), ("a",))
        self.sees(("[s]\nlock x\n", "x = a\n"), ("a",))
        stack = ("x = a\nwhen os is l\nlock x\nend\n", "x = b\n")
        self.sees(stack, ("b",))
        self.sees(stack, ("a",), (("os", "l"),))

    def test_settings_that_no_layer_has(self):
        for stack in ((), ("",), ("y = a\n[s]\nx = a\n", "# x = a\n")):
            self.sees(stack, None)
        self.sees(("x = a\n",), None, name="s.x")
        self.sees(("[s]\nx = a\n",), None, name="s.y")
        self.sees(("[s]\nx = a\n",), None, name="t.x")

    def test_conditions(self):
        stack = ("x = n\nwhen os is a, b\nx = y\nend\n",)
        for reader, wanted in (((), "n"), ((("os", "a"),), "y"), ((("os", "b"),), "y"), ((("os", "c"),), "n"),
                               ((("oz", "a"),), "n"), ((("ab", "b"), ("os", "a"), ("zz", "not")), "y")):
            self.sees(stack, (wanted,), reader)
        stack = ("x = n\nwhen os is not a, b\nx = y\nend\n",)
        for reader, wanted in (((), "y"), ((("os", "a"),), "n"), ((("os", "b"),), "n"), ((("os", "c"),), "y"),
                               ((("oz", "a"),), "y"), ((("ab", "b"), ("os", "a"), ("zz", "not")), "n")):
            self.sees(stack, (wanted,), reader)

    def test_whens_within_whens(self):
        stack = ("when os is a\nwhen at is not b\nx = 1\nend\nx += 2\nend\nx += 3\n",)
        self.sees(stack, ("1", "2", "3"), (("os", "a"),))
        self.sees(stack, ("2", "3"), (("at", "b"), ("os", "a")))
        self.sees(stack, ("3",), (("at", "c"),))

    def test_facts_that_the_stack_does_not_know(self):
        stack = ("x = a\nwhen os is a\nx += b\nend\n",)
        self.sees(stack, ("a", "b"), (("a", "a"), ("os", "a"), ("z", "os")))
        self.sees(stack, ("a",), (("OS", "a"), ("o", "a"), ("oss", "a")))
        self.sees(stack, ("a",), (("os", "aa"),))

    def test_sections_go_on(self):
        text = of_lines(
            "x = 0", "[s]  # c", "x = 1", "when os is a", "x += 2", "[t]", "x = 3", "end", "x += 4", "# []", "",
            "x += 5", "[]", "x += 6")
        self.sees((text,), ("0", "6"))
        self.sees((text,), ("1",), name="s.x")
        self.sees((text,), ("4", "5"), name="t.x")
        self.sees((text,), ("3", "4", "5"), (("os", "a"),), name="t.x")
        self.sees((text,), ("1", "2"), (("os", "a"),), name="s.x")

    def test_sections_begin_anew_with_each_layer(self):
        stack = ("[s]\nx = a\n", "x = b\n[s]\n", "x += c\n")
        self.sees(stack, ("b", "c"))
        self.sees(stack, ("a",), name="s.x")

    def test_order_of_layers(self):
        for chosen in itertools.permutations(("x = a\n", "x += b\n", "x ^= c\n", "x -= a\n")):
            self.sees(chosen, plainly.seen(chosen, (), "x"))
            self.sees(("".join(chosen),), plainly.seen(chosen, (), "x"))

    def test_against_the_document(self):
        for stack in plainly.random_stacks(1, 400):
            for reader in [*plainly.readers(stack), (("at", "c"), ("os", "a")), (("ab", "a"), ("os", "c"))]:
                for name in [*plainly.names(stack), "z"]:
                    self.sees(stack, plainly.seen(stack, reader, name), reader, name)

    def test_lists_and_plain_tuples(self):
        stack = ["x = a\nwhen os is a\nx += b\nend\n", "[s]\nx = c\n"]
        reader = [["os", "a"]]
        found = see(stack, reader, "x")
        self.assertEqual(found, ("a", "b"))
        self.assertIs(type(found), tuple)
        self.assertEqual(stack, ["x = a\nwhen os is a\nx += b\nend\n", "[s]\nx = c\n"])
        self.assertEqual(reader, [["os", "a"]])
        self.assertEqual(see(tuple(stack), [("os", "a")], "s.x"), ("c",))
        self.assertEqual(see(stack, (["os", "b"],), "x"), ("a",))

    def test_names_of_arguments(self):
        self.assertEqual(see(name="x", reader=(), stack=("x = a\n",)), ("a",))
        self.assertEqual(why(name="x", reader=(), stack=("x = a\n",)), (("a",), ((0, 0),), ((0, 0, "counts"),)))

    def test_many_lines(self):
        stack = tuple("".join(f"x += i{layer}-{line}\n" for line in range(50)) for layer in range(40))
        wanted = tuple(f"i{layer}-{line}" for layer in range(40) for line in range(50))
        self.sees(stack, wanted)
        value, origins, parts = why(stack, (), "x")
        self.assertEqual(value, wanted)
        self.assertEqual(origins, tuple((layer, line) for layer in range(40) for line in range(50)))
        self.assertEqual(parts, tuple((layer, line, "counts") for layer in range(40) for line in range(50)))


class Why(unittest.TestCase):
    def tells(self, stack, wanted, reader=(), name="x"):
        with self.subTest(stack=stack, reader=reader):
            self.assertEqual(why(stack, reader, name), wanted)

    def parts(self, stack, *wanted, reader=()):
        """What is told of each line, in short; all of them are on the setting."""
        with self.subTest(stack=stack, reader=reader):
            self.assertEqual([part for _, _, part in why(stack, reader, "x")[2]], list(wanted))

    def test_none(self):
        self.tells((), (None, (), ()))
        self.tells(("y = a\n", ""), (None, (), ()))
        self.tells(("x = a\n", "unset x\n"), (None, (), ((0, 0, "covered"), (1, 0, "counts"))))

    def test_the_empty_value(self):
        self.tells(("x =\n",), ((), (), ((0, 0, "counts"),)))
        self.tells(("\nx = a\n", "x -= a\n"), ((), (), ((0, 1, "counts"), (1, 0, "counts"))))

    def test_each_kind_of_part(self):
        stack = ("# c\nx = a\nx += b\n", "x = c\nx -= a\nlock x\nx = d\n")
        self.tells(stack, (("c",), ((1, 0),), (
            (0, 1, "covered"), (0, 2, "covered"), (1, 0, "counts"), (1, 1, "idle"), (1, 2, "counts"),
            (1, 3, "locked out"))))

    def test_origins(self):
        stack = ("x = a, b\n", "x += c, a\n\nx ^= d\n", "x -= b\n")
        self.tells(stack, (
            ("d", "a", "c", "a"), ((1, 2), (0, 0), (1, 0), (1, 0)),
            ((0, 0, "counts"), (1, 0, "counts"), (1, 2, "counts"), (2, 0, "counts"))))

    def test_an_item_twice_of_two_lines(self):
        self.tells(("x = a, a\nx += a\nx ^= a\n",), (
            ("a",) * 4, ((0, 2), (0, 0), (0, 0), (0, 1)), ((0, 0, "counts"), (0, 1, "counts"), (0, 2, "counts"))))
        self.tells(("x = a\nx += b\nx -= a\nx ^= a\n",), (
            ("a", "b"), ((0, 3), (0, 1)), tuple((0, line, "counts") for line in range(4))))

    def test_a_default(self):
        self.tells(("x ?= a, b\nx ?= c\n",), (("a", "b"), ((0, 0), (0, 0)), ((0, 0, "counts"), (0, 1, "idle"))))
        self.tells(("x ?= a\nx = b\n",), (("b",), ((0, 1),), ((0, 0, "covered"), (0, 1, "counts"))))
        self.tells(("x ?=\nx ?= a\n",), ((), (), ((0, 0, "counts"), (0, 1, "idle"))))

    def test_idle_lines_bring_nothing(self):
        self.tells(("x = a, b\n", "x = a, b\n"), (
            ("a", "b"), ((0, 0), (0, 0)), ((0, 0, "counts"), (1, 0, "idle"))))
        self.tells(("x += a\nx = a\nx ?= a\nx -= b\n",), (
            ("a",), ((0, 0),), ((0, 0, "counts"), (0, 1, "idle"), (0, 2, "idle"), (0, 3, "idle"))))
        self.tells(("x = a, b\nx = b, a\n",), (("b", "a"), ((0, 1), (0, 1)), ((0, 0, "covered"), (0, 1, "counts"))))

    def test_idle_lines_do_not_cover(self):
        self.parts(("x = a\nx += b\nx = a, b\n",), "counts", "counts", "idle")
        self.parts(("unset x\nx -= a\nunset x\nx = a\n",), "idle", "idle", "idle", "counts")
        self.parts(("x = a\nunset x\nunset x\n",), "covered", "counts", "idle")
        self.parts(("x =\nx =\n",), "counts", "idle")

    def test_locked_out_lines_do_not_cover(self):
        self.parts(("x = a\nlock x\nx = b\nunset x\n",), "counts", "counts", "locked out", "locked out")

    def test_a_lock_behind_a_lock(self):
        self.tells(("x = a\nlock x\n", "lock x\n"), (
            ("a",), ((0, 0),), ((0, 0, "counts"), (0, 1, "counts"), (1, 0, "locked out"))))
        self.tells(("lock x\n", "x = a\nlock x\n"), (
            None, (), ((0, 0, "counts"), (1, 0, "locked out"), (1, 1, "locked out"))))

    def test_locked_out_ahead_of_idle(self):
        self.parts(("x = a\nlock x\nx = a\nx ?= b\nx -= c\n",), "counts", "counts", *["locked out"] * 3)

    def test_only_set_and_unset_cover(self):
        for line in ("x += b", "x ^= b", "x -= a", "lock x"):
            self.parts((of_lines("x = a", line),), "counts", "counts")
        self.parts((of_lines("x -= a", "x ?= b"),), "idle", "counts")
        self.parts((of_lines("x += a", "x -= a", "x += a", "x = c"),), "covered", "covered", "covered", "counts")
        self.parts((of_lines("x += a", "unset x", "x ?= b", "x += c"),), "covered", "counts", "counts", "counts")
        self.parts((of_lines("x ?= a", "x = b", "x += c", "x = d", "x ^= e"),),
                   "covered", "covered", "covered", "counts", "counts")

    def test_only_lines_that_hold_are_told(self):
        stack = ("x = a\nwhen os is b\nx = b\nend\n", "y = c\n[s]\nx = d\n[]\nx += e\n")
        self.tells(stack, (("a", "e"), ((0, 0), (1, 4)), ((0, 0, "counts"), (1, 4, "counts"))))
        self.tells(stack, (("b", "e"), ((0, 2), (1, 4)), ((0, 0, "covered"), (0, 2, "counts"), (1, 4, "counts"))),
                   (("os", "b"),))
        self.tells(stack, (("d",), ((1, 2),), ((1, 2, "counts"),)), name="s.x")

    def test_lists_and_plain_tuples(self):
        stack, reader = ["x = a\n", "when os is a\nx += b\nend\n"], [["os", "a"]]
        found = why(stack, reader, "x")
        self.assertEqual(found, (("a", "b"), ((0, 0), (1, 1)), ((0, 0, "counts"), (1, 1, "counts"))))
        self.assertTrue(plainly.plain(found))
        self.assertEqual((stack, reader), (["x = a\n", "when os is a\nx += b\nend\n"], [["os", "a"]]))


class WhyAgainstTheDocument(unittest.TestCase):
    """[6] and [30] for stacks at random: the same as by following each line, with its items marked."""

    def told(self, stack, reader, name):
        """The value, its origins and the parts, of items that are pairs of an item and a place."""
        value, locked, steps = None, False, []
        for layer, line, word, items in plainly.on(stack, reader, name):
            if locked:
                steps.append([layer, line, word, "locked out"])
                continue
            bare = None if value is None else tuple(item for item, _ in value)
            after, locked = plainly.do(word, items, bare, False)
            if after == bare and not locked:
                steps.append([layer, line, word, "idle"])
                continue
            steps.append([layer, line, word, "counts"])
            marked = tuple((item, (layer, line)) for item in items)
            if word == "drop":
                value = tuple(pair for pair in value if pair[0] not in items)
            elif word != "lock":
                value = plainly.do(word, marked, value, False)[0]
        for at, step in enumerate(steps):
            later = steps[at + 1:]
            if step[3] == "counts" and any(each[2] in ("set", "unset") and each[3] == "counts" for each in later):
                step[3] = "covered"
        parts = tuple((layer, line, part) for layer, line, _, part in steps)
        if value is None:
            return None, (), parts
        return tuple(item for item, _ in value), tuple(place for _, place in value), parts

    def test_at_random(self):
        for stack in plainly.random_stacks(2, 400, most=8):
            for reader in plainly.readers(stack):
                for name in plainly.names(stack):
                    found = why(stack, reader, name)
                    self.assertEqual(found, self.told(stack, reader, name), (stack, reader, name))
                    self.assertEqual(found[0], see(stack, reader, name))

    def test_without_all_lines_that_do_not_count(self):
        for stack in plainly.random_stacks(3, 300, most=8):
            for reader in plainly.readers(stack):
                for name in plainly.names(stack):
                    value, origins, parts = why(stack, reader, name)
                    idle = {part[:2] for part in parts if part[2] != "counts"}
                    left = tuple(
                        "".join(line + "\n" for at, line in enumerate(text.split("\n")[:-1]) if (layer, at) not in idle)
                        for layer, text in enumerate(stack))
                    self.assertEqual(see(left, reader, name), value, (stack, reader, name))
                    self.assertTrue(set(origins) <= {part[:2] for part in parts if part[2] == "counts"})


if __name__ == "__main__":
    unittest.main()
