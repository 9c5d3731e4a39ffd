"""[3], [12] and [36] to [38]: normal forms, their lines and their texts."""

import itertools
import unittest

import plainly
from layeredwords.comparing import alike, meaning
from layeredwords.errors import BadLine, BadValue, TooMany
from layeredwords.meanings import is_meaning, nothing
from layeredwords.normal import normal, normal_text
from layeredwords.readers import facts_of, names_of
from layeredwords.texts import is_text

NOTHING = ("around", (), (), (), None, False)


def const(*items):
    return ("const", items, False)


def when(fact, values, *lines, way="is"):
    return "".join(line + "\n" for line in (f"when {fact} {way} {', '.join(values)}", *lines, "end"))


class Normal(unittest.TestCase):
    """[36]."""

    def gives(self, stack, wanted, name="x"):
        with self.subTest(stack=stack):
            self.assertEqual(normal(stack, name), wanted)

    def test_a_meaning(self):
        self.gives((), NOTHING)
        self.gives(("y = a\n[s]\nx = a\n",), NOTHING)
        self.gives(("x = a\n", "x += b\nlock x\n"), ("const", ("a", "b"), True))
        self.gives(("unset x\n",), ("const", None, False))
        self.gives(("[s]\nx ^= a\n", "[s]\nx -= b\n"), ("around", ("a",), ("b",), (), (), False), "s.x")

    def test_is(self):
        self.gives((when("os", "a", "x = b"),), ("fact", "os", (("a", const("b")),), NOTHING))
        self.gives((when("os", "ba", "x = b"),), ("fact", "os", (("a", const("b")), ("b", const("b"))), NOTHING))

    def test_is_not(self):
        self.gives((when("os", "cab", "x = i", way="is not"),),
                   ("fact", "os", (("a", NOTHING), ("b", NOTHING), ("c", NOTHING)), const("i")))
        self.gives((when("os", "ab", "x = i", way="is not"), when("os", "b", "x = j")),
                   ("fact", "os", (("a", NOTHING), ("b", const("j"))), const("i")))

    def test_conditions_that_make_no_difference(self):
        self.gives((when("os", "a"),), NOTHING)
        self.gives((when("os", "a", "y = a"),), NOTHING)
        self.gives((when("os", "a", "x = b") + when("os", "a", "x = b", way="is not"),), const("b"))
        self.gives(("x = b\n" + when("os", "a", "x = b"),), const("b"))
        self.gives((when("os", "a", "x = b") + "x = c\n",), const("c"))
        self.gives((when("os", "a", "when os is not a", "x = b", "end"),), NOTHING)
        self.gives((when("os", "a", "when os is b", "x = b", "end"),), NOTHING)
        self.gives(("x = a\nlock x\n" + when("os", "a", "x = b"),), ("const", ("a",), True))

    def test_a_value_that_is_the_same_as_other(self):
        self.gives(("x = i\n" + when("os", "ab", "x = j") + when("os", "b", "x = i"),),
                   ("fact", "os", (("a", const("j")),), const("i")))
        self.gives((when("os", "abc", "x = i", way="is not") + when("os", "b", "x = i"),),
                   ("fact", "os", (("a", NOTHING), ("c", NOTHING)), const("i")))

    def test_facts_ascend(self):
        both = ("fact", "a", (("1", ("fact", "b", (("2", const("i")),), NOTHING)),), NOTHING)
        self.gives((when("a", "1", "when b is 2", "x = i", "end"),), both)
        self.gives((when("b", "2", "when a is 1", "x = i", "end"),), both)
        self.gives((when("b", "2", "x = i") + when("Z", "1", "x = j"),), (
            "fact", "Z", (("1", const("j")),), ("fact", "b", (("2", const("i")),), NOTHING)))

    def test_a_fact_in_some_branches_alone(self):
        self.gives((when("a", "12", "x += i") + when("b", "1", "when a is 2", "x = j", "end"),), (
            "fact", "a", (
                ("1", ("around", (), (), ("i",), (), False)),
                ("2", ("fact", "b", (("1", const("j")),), ("around", (), (), ("i",), (), False))),
            ), NOTHING))
        self.gives((when("b", "1", "x = j") + when("a", "2", "x = k"),), (
            "fact", "a", (("2", const("k")),), ("fact", "b", (("1", const("j")),), NOTHING)))

    def test_a_fact_that_one_value_leaves_out(self):
        # Only behind the first fact it shows that the second one makes no difference.
        stack = (when("b", "1", "when a is 1", "x = i", "end") + when("b", "1", "when a is 1", "x = i", "end", way="is not"),)
        self.gives(stack, ("fact", "a", (("1", const("i")),), NOTHING))

    def test_several_whens_on_one_fact(self):
        self.gives((when("a", "123", "when a is not 2", "x = i", "end"),),
                   ("fact", "a", (("1", const("i")), ("3", const("i"))), NOTHING))
        self.gives((when("a", "12", "when a is 23", "x = i", "end", way="is not"),),
                   ("fact", "a", (("23", const("i")),), NOTHING))

    def test_against_the_document(self):
        for stack in plainly.random_stacks(41, 400, most=9):
            for name in plainly.names(stack):
                form = normal(stack, name)
                self.assertTrue(plainly.plain(form))
                self.check_form(form, "")
                for reader in plainly.readers(stack) + [(("at", "c"), ("os", "a")), (("os", "c"),)]:
                    if told(form, reader) != meaning(stack, reader, name):
                        self.fail((stack, name, reader))

    def check_form(self, form, above):
        """That it has the form of a normal form, with facts that are greater than the one above."""
        if is_meaning(form):
            return
        word, fact, branches, other = form
        values = [value for value, _ in branches]
        self.assertEqual((word, fact > above, values), ("fact", True, sorted(set(values))))
        self.assertGreater(len(values), 0)
        for _, branch in branches:
            self.assertNotEqual(branch, other)
            self.check_form(branch, fact)
        self.check_form(other, fact)

    def test_the_same_exactly_if_the_meanings_are(self):
        stacks = plainly.random_stacks(42, 60, layers=2, most=3, sections=False)
        for first, second in itertools.combinations(stacks, 2):
            same = all(meaning(first, reader, "x") == meaning(second, reader, "x")
                       for reader in plainly.readers(first, second))
            self.assertIs(normal(first, "x") == normal(second, "x"), same, (first, second))

    def test_lists_and_names_of_arguments(self):
        stack = [when("os", "a", "x = b"), "[s]\nx = c\n"]
        kept = list(stack)
        self.assertEqual(normal(name="x", stack=stack), ("fact", "os", (("a", const("b")),), NOTHING))
        self.assertEqual(normal_text(stack=stack), when("os", "a", "x = b") + "[s]\nx = c\n")
        self.assertEqual(stack, kept)


def told(form, reader):
    """The meaning that a normal form tells for a reader."""
    while form[0] == "fact":
        _, fact, branches, other = form
        form = dict(branches).get(dict(reader).get(fact), other)
    return form


def written(form, key):
    """The lines of a normal form for a key, by the words of [37]."""
    if form[0] == "const":
        _, value, locked = form
        lines = [f"unset {key}"] if value is None else [" ".join([key, "=", ", ".join(value)]).strip()]
    elif form[0] == "around":
        _, before, dropped, behind, default, locked = form
        lines = [f"{key} -= {', '.join(dropped)}"] if dropped else []
        if default is not None and not (default == () and (before or behind)):
            lines.append(f"{key} ?= {', '.join(default)}".strip())
        lines += [f"{key} ^= {', '.join(before)}"] if before else []
        lines += [f"{key} += {', '.join(behind)}"] if behind else []
    else:
        _, fact, branches, other = form
        parts = [(f"is {value}", branch) for value, branch in branches]
        parts.append(("is not " + ", ".join(value for value, _ in branches), other))
        lines = []
        for condition, part in parts:
            if written(part, key):
                lines += [f"when {fact} {condition}", *written(part, key), "end"]
        return lines
    return lines + ([f"lock {key}"] if locked else [])


class Lines(unittest.TestCase):
    """[37]: the lines of normal forms, told by normal_text of a stack with one name."""

    def gives(self, text, *lines):
        with self.subTest(text=text):
            self.assertEqual(normal_text((text,)), "".join(line + "\n" for line in lines))

    def test_const(self):
        self.gives("x = b\nx += a\nx += b\n", "x = b, a, b")
        self.gives("x =\n", "x =")
        self.gives("unset x\n", "unset x")
        self.gives("x = a\nlock x\nx = b\n", "x = a", "lock x")
        self.gives("unset x\nlock x\n", "unset x", "lock x")

    def test_around(self):
        self.gives("x -= b, a, b\n", "x -= a, b")
        self.gives("x ?= b, a\n", "x ?= b, a")
        self.gives("x ?=\n", "x ?=")
        self.gives("x ^= b, a\n", "x ^= b, a")
        self.gives("x += b, a\n", "x += b, a")
        self.gives("lock x\n", "lock x")
        self.gives("x += e\nx ^= d, d\nx -= a\n", "x -= a", "x ^= d, d", "x += e")

    def test_all_parts_of_around(self):
        self.gives("x -= b\nx ?= c, b\nx += e\nx ^= d\nx -= a\nlock x\n",
                   "x -= a, b", "x ?= c, b", "x ^= d", "x += e", "lock x")

    def test_the_empty_default(self):
        self.gives("x ?=\nx += a\n", "x += a")
        self.gives("x ?=\nx ^= a\n", "x ^= a")
        self.gives("x ?= a\nx -= a\n", "x -= a", "x ?=")
        self.gives("x ?= a\nx -= a\nx += b\n", "x -= a", "x += b")
        self.gives("x ?= a\nx += b\n", "x ?= a", "x += b")

    def test_no_statement(self):
        self.gives("")
        self.gives("# c\n[s]\n")
        self.gives("when os is a\nwhen os is b\nlock x\nend\nend\n")

    def test_facts(self):
        self.gives("when os is b, a\nx = i\nend\n", "when os is a", "x = i", "end", "when os is b", "x = i", "end")
        self.gives("when os is not b, a\nx = i\nend\n", "when os is not a, b", "x = i", "end")
        self.gives("x = i\nwhen os is b\nunset x\nend\n",
                   "when os is b", "unset x", "end", "when os is not b", "x = i", "end")

    def test_branches_without_lines(self):
        self.gives("when os is not b, a\nx = i\nend\nwhen os is b\nlock x\nend\n",
                   "when os is b", "lock x", "end", "when os is not a, b", "x = i", "end")

    def test_facts_within_facts(self):
        self.gives("when b is 1\nx += i\nend\nwhen a is 1\nx += j\nend\n",
                   "when a is 1", "when b is 1", "x += i, j", "end", "when b is not 1", "x += j", "end", "end",
                   "when a is not 1", "when b is 1", "x += i", "end", "end")

    def test_at_random(self):
        for stack in plainly.random_stacks(43, 300, most=9):
            lines = []
            section = ""
            for name in sorted(plainly.names(stack), key=lambda name: name.rpartition(".")[::2]):
                ahead, _, key = name.rpartition(".")
                own = written(normal(stack, name), key)
                lines += [f"[{ahead}]"] if own and ahead != section else []
                section = ahead if own else section
                lines += own
            self.assertEqual(normal_text(stack), "".join(line + "\n" for line in lines), stack)


class NormalText(unittest.TestCase):
    """[3] and [38]."""

    def gives(self, stack, wanted):
        with self.subTest(stack=stack):
            self.assertEqual(normal_text(stack), wanted)

    def test_no_names(self):
        for stack in ((), [], ("",), ("# c\n\n[s]\n", "when os is a\nend\n")):
            self.gives(stack, "")

    def test_names_and_sections_in_their_order(self):
        self.gives(("[t]\ny = a\nx = a\n[]\nz = a\n[s]\ny = a\n", "b = a\nB = a\n[s.t]\nx = a\n[S]\nx = a\n[s_]\nx = a\n"),
                   "B = a\nb = a\nz = a\n[S]\nx = a\n[s]\ny = a\n[s.t]\nx = a\n[s_]\nx = a\n[t]\nx = a\ny = a\n")

    def test_sections_alone(self):
        self.gives(("[s]\nlock x\n",), "[s]\nlock x\n")
        self.gives(("[a.b.c.d]\nx =\n[a.b]\nx ?=\n",), "[a.b]\nx ?=\n[a.b.c.d]\nx =\n")

    def test_a_key_that_is_a_section_too(self):
        self.gives(("[s]\ns = a\n[]\ns = b\n[s.s]\ns = c\n",), "s = b\n[s]\ns = a\n[s.s]\ns = c\n")

    def test_names_without_lines(self):
        nobody = "when os is a\nwhen os is b\nx = a\nend\nend\n"
        self.gives((nobody,), "")
        self.gives((f"[s]\n{nobody}[t]\n{nobody}y = b\n[u]\n{nobody}",), "[t]\ny = b\n")
        self.gives((f"y = a\n[s]\n{nobody}y = b\n",), "y = a\n[s]\ny = b\n")

    def test_the_document(self):
        low = "[net]\nhosts = a, b   # both\nport ?= 80\n"
        high = "[net]\nhosts += c\nwhen place is home\nhosts -= b\nend\n"
        self.gives((low, high), (
            "[net]\nwhen place is home\nhosts = a, c\nend\nwhen place is not home\nhosts = a, b, c\nend\nport ?= 80\n"))

    def test_the_same_exactly_if_alike(self):
        stacks = plainly.random_stacks(44, 40, layers=2, most=3) + [(), ("x = a\n",), ("x = b\nx = a\n",)]
        for first, second in itertools.combinations(stacks, 2):
            wanted = plainly.first_difference(first, second) is None
            self.assertIs(normal_text(first) == normal_text(second), wanted, (first, second))
            self.assertIs(alike(first, second), wanted, (first, second))

    def test_a_stack_and_its_normal_text(self):
        for stack in plainly.random_stacks(45, 300, most=9):
            text = normal_text(stack)
            self.assertIs(is_text(text), True)
            self.assertIs(alike(stack, (text,)), True, stack)
            self.assertIs(plainly.first_difference(stack, (text,)) is None, True, stack)
            self.assertEqual(normal_text((text,)), text)

    def test_nothing_of_conditions_without_a_difference(self):
        for stack in plainly.random_stacks(46, 100):
            text = normal_text(stack)
            for name in names_of((text,)):
                self.assertNotEqual(normal((text,), name), nothing())
            known = dict(facts_of(stack))
            for fact, values in facts_of((text,)):
                self.assertTrue(set(values) <= set(known[fact]))


class Limits(unittest.TestCase):
    def raises(self, word, function, *arguments):
        with self.assertRaises(TooMany) as caught:
            function(*arguments)
        self.assertEqual(caught.exception.word, word)

    def test_2000_lines(self):
        text = "".join(f"k{at:04} = a\n" for at in range(2000))
        self.assertEqual(normal_text((text,)), text)
        self.assertEqual(normal_text((text[:-10], "[]\n")), text[:-10])

    def test_lines_of_whens(self):
        # In the normal text each of the names has its own when and end.
        text = "when os is a\n" + "".join(f"x{at} = a\n" for at in range(666)) + "end\n"
        self.assertEqual(normal_text((text + "y = a\nz = a\n",)).count("\n"), 2000)
        self.raises("lines", normal_text, (text + "y = a\nz = a\nlock z\n",))
        self.raises("lines", normal_text, (text, "w = a\ny = a\nz = a\n"))

    def test_lines_of_sections(self):
        text = "when os is a\n" + "".join(f"[s{at}]\nx = a\n" for at in range(500)) + "end\n"
        self.assertEqual(normal_text((text,)).count("\n"), 2000)
        self.raises("lines", normal_text, (text + "[]\nlock x\n",))
        self.raises("lines", normal_text, (text + "lock y\n",))

    def test_many_readers(self):
        def stack(facts):
            return ("".join(f"when {fact} is v\nend\n" for fact in facts) + "x = a\n",)

        for function, more in ((normal, ("x",)), (normal_text, ())):
            function(stack("abcdefghi"), *more)
            self.raises("readers", function, stack("abcdefghij"), *more)
            self.raises("readers", function, stack("abcdefghi") + ("when a is w\nend\n",), *more)
        self.raises("readers", normal, stack("abcdefghij"), "y")

    def test_512_readers(self):
        text = "".join(f"when {fact} is v\nx += {fact}\nend\n" for fact in "abcdefgh")
        form = normal((text,), "x")
        found = normal_text((text,))
        self.assertEqual(told(form, [(fact, "v") for fact in "aceg"]), ("around", (), (), tuple("aceg"), (), False))
        # A when and an end for each branch; the reader without all facts needs no lines.
        self.assertEqual(found.count("\n"), 256 + 4 * 255 - 3)
        self.assertIs(alike((text,), (found,)), True)
        self.raises("lines", normal_text, (text + "when i is v\nx += i\nend\n",))
        values = [f"v{at:03}" for at in range(511)]
        wide = "".join(when("os", [value], f"x = {value}") for value in values)
        self.assertEqual(normal_text((wide,)), wide)

    def test_the_order_of_errors(self):
        many = "".join(f"when {fact} is v\nend\n" for fact in "abcdefghij")
        with self.assertRaises(BadValue) as caught:
            normal((many,), "1")
        self.assertEqual(caught.exception.at, 2)
        for function, more in ((normal, ("1",)), (normal_text, ())):
            with self.assertRaises(BadLine) as caught:
                function((many, "", "\nbad\n"), *more)
            self.assertEqual((caught.exception.layer, caught.exception.at), (2, 1))
        # One that has too many readers would have too many lines, too.
        self.raises("readers", normal_text, (many.replace("end", "x += a\nend"), "when k is v\n" + "".join(
            f"lock y{at}\n" for at in range(1900)) + "end\n"))


if __name__ == "__main__":
    unittest.main()
