"""[1], [2], [4], [12] and [32] to [35]: meanings of stacks, and whether two stacks are alike."""

import itertools
import random
import unittest

import plainly
from layeredwords.comparing import alike, apart, meaning
from layeredwords.errors import BadLine, BadValue, TooMany
from layeredwords.meanings import act, is_meaning, meaning_of, nothing, then
from layeredwords.normal import normal_text
from layeredwords.readers import readers
from layeredwords.seeing import see
from layeredwords.texts import is_text

SINGLE = ("x =\n", "x = a\n", "x = a, a\n", "x += a\n", "x += b\n", "x ^= a\n", "x -= a\n", "x -= a, b\n",
          "x ?=\n", "x ?= a\n", "unset x\n", "lock x\n", "when os is a\nx += b\nend\n", "when os is not a\nlock x\nend\n")


def pairs_at_random(seed, many):
    """Pairs of small stacks, among them ones that are alike and ones that are nearly so."""
    rng = random.Random(seed)
    stacks = plainly.random_stacks(seed, many, layers=2, most=4)
    found = list(zip(stacks, stacks[1:]))
    for stack in stacks:
        text = "".join(stack) if all("[" not in text for text in stack) else normal_text(stack)
        found += [(stack, (text,)), (stack + ("# c\n",), stack), (stack, stack + (plainly.random_line(rng) + "\n",))]
        found += [((plainly.random_text(rng, 2),) + stack, stack), (stack, (normal_text(stack), "x ?= a\n"))]
    return found


class Examples(unittest.TestCase):
    def test_part_one(self):
        self.assertIs(apart(("x = a\nx += b\n",), ("x = a, b\n",)) is None, True)
        self.assertEqual(apart(("x += b\n",), ("x ?= b\n",)), ((), "x", "below", "x =\n", ("b",), ()))


class Meaning(unittest.TestCase):
    """[4] and [32]."""

    def means(self, stack, wanted, reader=(), name="x"):
        with self.subTest(stack=stack, reader=reader):
            self.assertEqual(meaning(stack, reader, name), wanted)

    def test_no_statement(self):
        for stack in ((), ("",), ("y = a\n[s]\nx = a\n",), ("when os is a\nx = a\nend\n",)):
            self.means(stack, nothing())

    def test_statements_in_order(self):
        self.means(("x -= a, b\n", "x ?= c\nx ^= d\n", "x += e, e\n"), ("around", ("d",), ("a", "b"), ("e", "e"), ("c",), False))
        self.means(("x += a\n", "unset x\nx -= b\n"), ("const", None, False))
        self.means(("x = a\n", "x += b\nlock x\n", "x = c\n"), ("const", ("a", "b"), True))
        self.means(("lock x\nx = a\n",), ("around", (), (), (), None, True))

    def test_readers_and_names(self):
        stack = ("x += a\n[s]\nwhen os is a\nx += b\nend\nx += c\n", "when os is not a\nx += d\nend\n")
        self.means(stack, ("around", (), (), ("a", "d"), (), False))
        self.means(stack, ("around", (), (), ("a",), (), False), (("os", "a"),))
        self.means(stack, ("around", (), (), ("b", "c"), (), False), (("os", "a"),), "s.x")
        self.means(stack, ("around", (), (), ("c",), (), False), (("os", "b"),), "s.x")

    def test_one_statement_after_the_other(self):
        for stack in plainly.random_stacks(11, 300):
            for reader in plainly.readers(stack):
                for name in plainly.names(stack):
                    wanted = nothing()
                    for _, _, word, items in plainly.on(stack, reader, name):
                        wanted = then(wanted, meaning_of(word, items))
                    self.means(stack, wanted, reader, name)

    def test_of_a_stack_that_of_its_layers(self):
        for stack in plainly.random_stacks(12, 200):
            for reader in ((), (("at", "a"), ("os", "b"))):
                wanted = nothing()
                for text in stack:
                    wanted = then(wanted, meaning((text,), reader, "x"))
                self.means(stack, wanted, reader)

    def test_what_it_does(self):
        for stack in plainly.random_stacks(13, 300):
            for reader in plainly.readers(stack):
                found = meaning(stack, reader, "x")
                self.assertIs(is_meaning(found), True)
                self.assertTrue(plainly.plain(found))
                for value in plainly.starts(stack):
                    self.assertEqual(act(found, value, False), plainly.end_of(stack, reader, "x", value))
                self.assertEqual(see(stack, reader, "x"), act(found, None, False)[0])

    def test_lists(self):
        stack, reader = ["x = a\n", "when os is a\nx += b\nend\n"], [["os", "a"]]
        self.assertEqual(meaning(name="x", reader=reader, stack=stack), ("const", ("a", "b"), False))
        self.assertEqual((stack, reader), (["x = a\n", "when os is a\nx += b\nend\n"], [["os", "a"]]))

    def test_long_stacks(self):
        lines = [f"x {sign} i{at % 7}\n" for at, sign in enumerate(("+=", "^=", "-=", "?=", "+=") * 400)]
        text = "".join(lines)
        wanted = nothing()
        for _, _, word, items in plainly.on((text,), (), "x"):
            wanted = then(wanted, meaning_of(word, items))
        self.means((text,), wanted)
        self.means(tuple("".join(lines[at:at + 50]) for at in range(0, 2000, 50)), wanted)


class Alike(unittest.TestCase):
    """[33] and [34]."""

    def same(self, *stacks):
        for one, other in itertools.product(stacks, repeat=2):
            with self.subTest(one=one, other=other):
                self.assertIs(alike(one, other), True)
                self.assertIsNone(apart(one, other))

    def differ(self, one, other):
        for first, second in ((one, other), (other, one)):
            with self.subTest(first=first, second=second):
                self.assertIs(alike(first, second), False)
                self.assertIsNotNone(apart(first, second))

    def test_a_lock_alone(self):
        self.differ(("x = a\n",), ("x = a\nlock x\n",))
        self.differ(("lock x\n",), ())
        self.differ(("when os is a\nlock x\nend\n",), ())

    def test_a_default_alone(self):
        self.differ(("x ?= a\n",), ())
        self.differ(("x ?=\n",), ())
        self.differ(("x ?= a\n",), ("x ?= b\n",))
        self.same(("x ?= a\nx ?= b\n",), ("x ?= a\n",))
        self.same(("x += a\nx ?= b\n",), ("x += a\n",))

    def test_a_drop_alone(self):
        self.differ(("x -= a\n",), ())
        self.differ(("x -= a\n",), ("x -= b\n",))
        self.same(("x -= a\n", "x -= b\n"), ("x -= b, a, b\n",))

    def test_doubles(self):
        self.differ(("x = a\n",), ("x = a, a\n",))
        self.differ(("x += a\n",), ("x += a\nx += a\n",))
        self.differ(("x ?= a, b, a\n",), ("x ?= a, b\n",))
        self.differ(("x += a, b\n",), ("x += b, a\n",))

    def test_one_reader_alone(self):
        for way in ("is a", "is not a", "is not a, b", "is c"):
            self.differ(("x = a\n",), (f"x = a\nwhen os {way}\nx += b\nend\n",))
        self.differ(("x = a\nwhen os is b\nwhen at is c\nx += d\nend\nend\n",), ("x = a\n",))

    def test_one_name_alone(self):
        self.differ(("x = a\ny = b\n",), ("x = a\ny = c\n",))
        self.differ(("x = a\n[s]\nx = b\n",), ("x = a\n",))
        self.differ(("[s]\nx = b\n",), ("[t]\nx = b\n",))

    def test_written_otherwise(self):
        self.same(("x = a\nx += b\n",), ("x = a, b\n",), ("", "x = b\n", "x ^= a  # c\n"),
                  ["unset x\nx += a\n[]\nx ?= z\nx += b\n"], ("[s]\n", "x -= q\nx = c\nx = a, b\n"))
        self.same((), ("",), ("# c\n", "[s]\n\n"), ("when os is a\nend\n",), ("when a is b\nwhen a is c\nx = a\nend\nend\n",))
        self.same(("when os is a\nx += b\nend\nwhen os is not a\nx += b\nend\n",), ("x += b\n",))
        self.same(("when os is a, b\nx = c\nend\n",), ("when os is b\nx = c\nend\n", "when os is a\nx = c\nend\n"))
        self.same(("when a is b\nwhen c is d\nlock x\nend\nend\n",), ("when c is d\nwhen a is b\nlock x\nx = a\nend\nend\n",))
        self.same(("x = a\n[s]\ny = b\n",), ("[s]\ny = b\n[]\nx = a\n",), ("[s]\n", "x = a\n", "[s]\ny = b\n"))
        self.same(("x += a\nlock x\n",), ("x += a\nlock x\n", "x += b\nunset x\nlock x\n"))

    def test_nearly_so(self):
        self.differ(("x += a\nx -= a\n",), ("x -= a\n",))
        self.same(("x += a\nx -= a\n",), ("x -= a\nx ?=\n",))
        self.differ(("unset x\n",), ("x =\n",))
        self.differ(("unset x\n",), ())
        self.differ(("when os is a\nx = a\nend\n",), ("when os is not b\nx = a\nend\n",))

    def test_at_random(self):
        for first, second in pairs_at_random(21, 250):
            wanted = plainly.first_difference(first, second) is None
            if alike(first, second) is not wanted:
                self.fail((first, second))
            self.assertIs(apart(first, second) is None, wanted)

    def test_both_are_long(self):
        first = tuple(f"x = i{at}\n" for at in range(40))
        second = ("x = i39\n",) * 40
        self.same(first, second)
        long = "x = a\n" * 1500
        self.same((long,), (long, "\n" * 500))
        self.differ((long,), (long, "\n" * 499 + "lock x\n"))
        self.assertEqual(apart(("y = a\n",) * 39 + ("y = b\n" * 1000,), ("y = b\n" * 2000,)), None)

    def test_lists_stay(self):
        first, second = ["x = a\n", "when os is b\nx += c\nend\n"], ["x = a\n"]
        self.assertIs(alike(second=second, first=first), False)
        self.assertEqual(apart(second=second, first=first), ((("os", "b"),), "x", "none", "", ("a", "c"), ("a",)))
        self.assertEqual((first, second), (["x = a\n", "when os is b\nx += c\nend\n"], ["x = a\n"]))


class Apart(unittest.TestCase):
    """[35]: by what a reader tells two stacks apart."""

    def tells(self, first, second, *wanted):
        with self.subTest(first=first, second=second):
            self.assertEqual(apart(first, second), wanted)
            reader, name, where, text, one, other = wanted
            self.assertEqual(apart(second, first), (reader, name, where, text, other, one))

    def test_no_further_layer(self):
        self.tells(("x = a\n",), ("x = b\n",), (), "x", "none", "", ("a",), ("b",))
        self.tells(("x = a\n",), (), (), "x", "none", "", ("a",), None)
        self.tells(("x ?=\n",), (), (), "x", "none", "", (), None)
        self.tells(("x += a\n",), ("unset x\n",), (), "x", "none", "", ("a",), None)

    def test_the_empty_value_below(self):
        self.tells(("x += b\n",), ("x ?= b\n",), (), "x", "below", "x =\n", ("b",), ())
        self.tells(("unset x\n",), (), (), "x", "below", "x =\n", None, ())
        self.tells(("unset x\n",), ("x -= a\n",), (), "x", "below", "x =\n", None, ())

    def test_an_item_below(self):
        self.tells(("x -= b\n",), (), (), "x", "below", "x = b\n", (), ("b",))
        self.tells(("x -= b, c\n",), ("x -= c, a\n",), (), "x", "below", "x = a\n", ("a",), ())
        self.tells(("x -= b\nx += a\n",), ("x += a\n",), (), "x", "below", "x = b\n", ("a",), ("b", "a"))
        self.tells(("x += a\n",), ("x ^= a\n",), (), "x", "below", "x = new0\n", ("new0", "a"), ("a", "new0"))
        self.tells(("x += a, b\n",), ("x ^= a\nx += b\n",), (), "x", "below", "x = b\n", ("b", "a", "b"), ("a", "b", "b"))

    def test_the_fresh_item_below(self):
        self.tells(("x = a\n",), ("x -= a\nx += a\n",), (), "x", "below", "x = new0\n", ("a",), ("new0", "a"))
        self.tells(("x = new0\n",), ("x -= new0\nx += new0\n",), (), "x", "below", "x = new1\n", ("new0",), ("new1", "new0"))
        self.tells(("x = new1\n",), ("x -= new1\nx += new1\n",), (), "x", "below", "x = new0\n", ("new1",), ("new0", "new1"))
        self.tells(("x ^= new1, new0\n",), ("x += new1, new0\n",), (), "x", "below", "x = new0\n",
                   ("new1", "new0", "new0"), ("new0", "new1", "new0"))

    def test_above(self):
        self.tells(("lock x\n",), (), (), "x", "above", "x = new0\n", None, ("new0",))
        self.tells(("x = a\n",), ("x = a\nlock x\n",), (), "x", "above", "x = new0\n", ("new0",), ("a",))
        self.tells(("x = new0, new1\n",), ("x = new0, new1\nlock x\n",), (), "x", "above", "x = new2\n",
                   ("new2",), ("new0", "new1"))
        self.tells(("x -= new0\n",), ("x -= new0\nlock x\n",), (), "x", "above", "x = new1\n", ("new1",), None)
        self.tells(("x += new1\n",), ("x += new1\nlock x\n",), (), "x", "above", "x = new0\n", ("new0",), ("new1",))

    def test_items_that_stand_in_no_meaning(self):
        self.tells(("x = new0\nx = a\n",), ("x = a\nlock x\n",), (), "x", "above", "x = new0\n", ("new0",), ("a",))
        self.tells(("x += new0\nx -= new0, a\nx ^= a\n",), ("x = a\n",), (), "x", "below", "x = new1\n", ("a", "new1"), ("a",))

    def test_both_the_lock_and_values(self):
        self.tells(("x -= a\n",), ("lock x\n",), (), "x", "below", "x = a\n", (), ("a",))
        self.tells(("x = a\nlock x\n",), ("x = b\n",), (), "x", "none", "", ("a",), ("b",))

    def test_names_with_sections(self):
        self.tells(("[s]\nx -= b\n",), (), (), "s.x", "below", "[s]\nx = b\n", (), ("b",))
        self.tells(("[s.t.u.v]\nlock x\n",), (), (), "s.t.u.v.x", "above", "[s.t.u.v]\nx = new0\n", None, ("new0",))
        self.tells(("[s]\nunset x\n",), (), (), "s.x", "below", "[s]\nx =\n", None, ())
        self.tells(("[s]\nx = a\n",), (), (), "s.x", "none", "", ("a",), None)

    def test_the_first_name(self):
        self.tells(("y = a\nx = a\nB = a\n",), ("z = a\n",), (), "B", "none", "", ("a",), None)
        self.tells(("x = a\ny = a\n[s]\nx = a\n",), ("x = a\n",), (), "s.x", "none", "", ("a",), None)
        self.tells(("x = a\nlock y\n",), ("z = a\nx = a\n",), (), "y", "above", "y = new0\n", None, ("new0",))

    def test_the_first_name_ahead_of_the_first_reader(self):
        self.tells(("when os is a\nx = a\nend\ny = a\n",), (), (("os", "a"),), "x", "none", "", ("a",), None)

    def test_the_first_reader(self):
        low, high = ("x = a\nwhen os is c, b\nx = b\nend\n",), ("x = a\n",)
        self.tells(low, high, (("os", "b"),), "x", "none", "", ("b",), ("a",))
        self.tells(("when os is not a\nlock x\nend\n",), (), (), "x", "above", "x = new0\n", None, ("new0",))
        text = "when b is v\nx = b\nend\nwhen a is v\nx = a\nend\n"
        self.tells((text,), (), (("b", "v"),), "x", "none", "", ("b",), None)
        self.tells((text,), ("when b is v\nx = b\nend\n",), (("a", "v"),), "x", "none", "", ("a",), None)
        self.tells(("when a is v, w\nwhen b is v, u\nx = a\nend\nend\n",), (), (("a", "v"), ("b", "u")), "x", "none", "",
                   ("a",), None)

    def test_readers_of_both_together(self):
        first = "x = a\nwhen a is u\nend\nwhen b is v\nx = b\nend\n"
        second = "x = a\nwhen b is v\nx = b\nend\nwhen c is not w, t\nx += c\nend\n"
        self.tells((first,), (second,), (), "x", "none", "", ("a",), ("a", "c"))
        second = "x = a\nwhen b is v\nx = b\nwhen c is w, t\nx += c\nend\nend\n"
        self.tells((first,), (second,), (("b", "v"), ("c", "t")), "x", "none", "", ("b",), ("b", "c"))

    def test_facts_of_other_names(self):
        first = "when a is v\ny = a\nend\nwhen b is v\nx = b\nend\n"
        second = "when a is v\ny = a\nend\n"
        self.tells((first,), (second,), (("b", "v"),), "x", "none", "", ("b",), None)

    def test_plain_tuples_and_good_texts(self):
        for first, second in pairs_at_random(22, 60):
            found = apart(list(first), list(second))
            self.assertTrue(plainly.plain(found))
            if found is not None:
                self.assertIs(is_text(found[3]), True)

    def layers(self, name, one, other):
        """The further layers, in their order, of two meanings."""
        items = sorted({item for each in (one, other) for part in each if isinstance(part, tuple) for item in part})
        fresh = next(f"new{at}" for at in itertools.count() if f"new{at}" not in items)
        section, _, key = name.rpartition(".")
        ahead = f"[{section}]\n" if section else ""
        below = [f"{ahead}{key} =\n"] + [f"{ahead}{key} = {item}\n" for item in [*items, fresh]]
        return [("none", "")] + [("below", text) for text in below] + [("above", below[-1])]

    def test_at_random(self):
        seen = set()
        for first, second in pairs_at_random(23, 250):
            found = apart(first, second)
            wanted = plainly.first_difference(first, second)
            if wanted is None:
                self.assertIsNone(found)
                continue
            name, reader = wanted
            for where, text in self.layers(name, meaning(first, reader, name), meaning(second, reader, name)):
                ahead, behind = ((text,), ()) if where == "below" else ((), (text,))
                one, other = (plainly.seen(ahead + stack + behind, reader, name) for stack in (first, second))
                if one != other:
                    break
            self.assertEqual(found, (reader, name, where, text, one, other), (first, second))
            seen.add((where, text[-6:]))
        self.assertTrue({"none", "below", "above"} == {where for where, _ in seen})


class Guarantees(unittest.TestCase):
    """[1] and [2]: what follows for any further layers."""

    def test_no_further_layers_tell_alike_stacks_apart(self):
        rng = random.Random(31)
        many = 0
        for first, second in pairs_at_random(24, 150):
            if apart(first, second) is not None:
                continue
            many += 1
            below, above = ((plainly.random_text(rng), plainly.random_text(rng)) for _ in range(2))
            for reader in plainly.readers(first, second, below, above):
                for name in plainly.names(first, second):
                    one = see(below + first + above, reader, name)
                    if one != see(below + second + above, reader, name):
                        self.fail((below, first, second, above, reader, name))
        self.assertGreater(many, 100)

    def test_what_is_told_is_seen(self):
        for first, second in pairs_at_random(25, 200):
            found = apart(first, second)
            if found is not None:
                reader, name, where, text, one, other = found
                ahead, behind = ((text,), ()) if where == "below" else ((), (text,))
                self.assertEqual(see(ahead + first + behind, reader, name), one)
                self.assertEqual(see(ahead + second + behind, reader, name), other)
                self.assertNotEqual(one, other)
                self.assertIn(reader, readers(first + second))

    def test_all_short_stacks(self):
        values = plainly.starts(SINGLE)
        chosen = list(itertools.product(SINGLE, repeat=2))
        effects = {
            stack: [plainly.effect(stack, reader, "x", values) for reader in ((), (("os", "a"),))] for stack in chosen}
        for first, second in itertools.combinations(random.Random(32).sample(chosen, 90), 2):
            if alike(first, second) is not (effects[first] == effects[second]):
                self.fail((first, second))


class TooManyReaders(unittest.TestCase):
    def raises(self, first, second):
        for function in (alike, apart):
            with self.assertRaises(TooMany) as caught:
                function(first, second)
            self.assertEqual(caught.exception.word, "readers")

    def stack(self, facts):
        return ("".join(f"when {fact} is v\nx = {fact}\nend\n" for fact in facts),)

    def test_of_both_together(self):
        for stack in (self.stack("abcdefgh"), self.stack("ghij")):
            self.assertLessEqual(len(readers(stack)), 512)
        self.raises(self.stack("abcdefgh"), self.stack("ghij"))
        self.raises(self.stack("abcdefgh"), ("when i is v\nend\nwhen j is v\nend\n",))
        self.raises(("when a is " + ", ".join(f"v{at}" for at in range(300)) + "\nend\n",),
                    ("when a is " + ", ".join(f"v{at}" for at in range(200, 512)) + "\nend\n",))

    def test_of_one(self):
        ten = self.stack("abcdefghij")
        for first, second in ((ten, ()), ((), ten), (ten, ten)):
            self.raises(first, second)

    def test_just_512(self):
        first, second = self.stack("abcdef"), self.stack("defghi")
        self.assertIs(alike(first, second), False)
        self.assertEqual(apart(first, second), ((("i", "v"),), "x", "none", "", None, ("i",)))
        self.assertIs(alike(self.stack("abcdefghi"), self.stack("abcdefghi")), True)
        values = [f"v{at}" for at in range(511)]
        one = "when a is " + ", ".join(values[:400]) + "\nx = a\nend\n"
        other = "when a is " + ", ".join(values[300:]) + "\nx = a\nend\n"
        self.assertEqual(apart((one,), (other,)), ((("a", "v0"),), "x", "none", "", ("a",), None))

    def test_behind_the_errors_of_both(self):
        ten = self.stack("abcdefghij")
        for function in (alike, apart):
            with self.assertRaises(BadValue) as caught:
                function(ten, None)
            self.assertEqual(caught.exception.at, 2)
            with self.assertRaises(BadLine) as caught:
                function(ten, ("", "x = a\nbad\n"))
            self.assertEqual((caught.exception.layer, caught.exception.at), (1, 1))

    def test_meaning_has_no_such_limit(self):
        self.assertEqual(meaning(self.stack("abcdefghijkl"), (("c", "v"),), "x"), ("const", ("c",), False))


if __name__ == "__main__":
    unittest.main()
