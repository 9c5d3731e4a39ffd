"""[31]: facts_of, readers and names_of."""

import unittest

import plainly
from layeredwords.errors import TooMany
from layeredwords.readers import facts_of, names_of, readers
from layeredwords.seeing import see
from layeredwords.texts import is_reader


def when(fact, values, way="is"):
    return f"when {fact} {way} {', '.join(values)}\nend\n"


class FactsOf(unittest.TestCase):
    def test_none(self):
        for stack in ((), [], ("",), ("x = a\n[s]\nlock x\n", "# when os is a\n")):
            self.assertEqual(facts_of(stack), ())

    def test_whens_in_which_no_statement_stands(self):
        self.assertEqual(facts_of(("when os is a\nend\n",)), (("os", ("a",)),))
        self.assertEqual(facts_of(("", "when os is not b\nwhen at is c\n\n# c\n[s]\nend\nend\n")),
                         (("at", ("c",)), ("os", ("b",))))

    def test_order_of_facts_and_values(self):
        text = when("b", ("z", "B", "a-1")) + when("Z", ("9", "/", "_"))
        self.assertEqual(facts_of((text,)), (("Z", ("/", "9", "_")), ("b", ("B", "a-1", "z"))))

    def test_values_in_several_conditions(self):
        stack = (when("os", ("c", "a")) + when("os", ("a", "b"), "is not"), when("os", ("a",)), when("at", ("a",)))
        self.assertEqual(facts_of(stack), (("at", ("a",)), ("os", ("a", "b", "c"))))

    def test_within_each_other(self):
        text = "when os is a\nwhen at is b\nwhen os is not c\nx = a\nend\nend\nwhen os is d\nend\nend\n"
        self.assertEqual(facts_of((text,)), (("at", ("b",)), ("os", ("a", "c", "d"))))

    def test_many_facts(self):
        text = "".join(when(f"f{at}", ("v",)) for at in range(1000))
        self.assertEqual(facts_of((text,)), tuple((fact, ("v",)) for fact in sorted(f"f{at}" for at in range(1000))))

    def test_at_random(self):
        for stack in plainly.random_stacks(4, 300):
            found = facts_of(stack)
            self.assertEqual(found, plainly.facts(stack))
            self.assertTrue(plainly.plain(found))


class Readers(unittest.TestCase):
    def test_no_facts(self):
        for stack in ((), ("",), ["x = a\n"]):
            self.assertEqual(readers(stack), ((),))

    def test_order(self):
        stack = (when("os", ("b", "a")), when("at", ("d",), "is not") + when("at", ("c",)))
        self.assertEqual(readers(stack), (
            (), (("os", "a"),), (("os", "b"),),
            (("at", "c"),), (("at", "c"), ("os", "a")), (("at", "c"), ("os", "b")),
            (("at", "d"),), (("at", "d"), ("os", "a")), (("at", "d"), ("os", "b")),
        ))

    def test_at_random(self):
        for stack in plainly.random_stacks(5, 300):
            found = readers(stack)
            self.assertEqual(list(found), plainly.readers(stack))
            self.assertTrue(plainly.plain(found))
            self.assertTrue(all(is_reader(reader) for reader in found))

    def test_each_reader_sees_what_one_of_them_sees(self):
        for stack in plainly.random_stacks(6, 150):
            found = readers(stack)
            known = dict(facts_of(stack))
            for reader in ((), (("ab", "a"), ("os", "a")), (("at", "b"), ("os", "c")), (("at", "a"), ("zz", "a")),
                           (("at", "not"), ("os", "b"))):
                same = tuple(pair for pair in reader if pair[1] in known.get(pair[0], ()))
                self.assertIn(same, found)
                for name in names_of(stack):
                    self.assertEqual(see(stack, reader, name), see(stack, same, name))

    def many(self, stack):
        with self.assertRaises(TooMany) as caught:
            readers(stack)
        self.assertEqual(caught.exception.word, "readers")

    def test_512_and_one_more(self):
        values = [f"v{at}" for at in range(512)]
        self.assertEqual(len(readers((when("os", values[:511]),))), 512)
        self.assertEqual(readers((when("os", values[:511]),))[-1], (("os", "v99"),))
        self.many((when("os", values),))
        self.many((when("os", values[:300]), when("os", values[200:], "is not")))
        self.assertEqual(len(readers((when("os", values[:300]), when("os", values[200:511])))), 512)

    def test_many_facts(self):
        nine = "".join(when(f"f{at}", ("v",)) for at in range(9))
        found = readers((nine,))
        self.assertEqual((len(found), len(set(found))), (512, 512))
        self.assertEqual(found[:4], ((), (("f8", "v"),), (("f7", "v"),), (("f7", "v"), ("f8", "v"))))
        self.assertEqual(found[-1], tuple((f"f{at}", "v") for at in range(9)))
        self.many((nine, when("f9", ("v",))))
        self.many((nine + when("f0", ("w",)),))
        self.many(("".join(when(f"f{at}", ("v",)) for at in range(1000)),))

    def test_products_around_512(self):
        def stack(*counts):
            return tuple(when(f"f{at}", [f"v{each}" for each in range(count - 1)]) for at, count in enumerate(counts))

        for counts in ((16, 32), (8, 8, 8), (2, 256), (7, 73), (19, 26), (3, 170)):
            self.assertEqual(len(readers(stack(*counts))), counts[0] * counts[1] * (counts[2:] or (1,))[0])
        for counts in ((19, 27), (3, 171), (2, 257), (27, 19), (8, 8, 9), (513,)):
            self.many(stack(*counts))

    def test_the_other_functions_have_no_such_limit(self):
        text = "x = a\n" + "".join(when(f"f{at}", ("v",)) for at in range(10))
        self.assertEqual(len(facts_of((text,))), 10)
        self.assertEqual(names_of((text,)), ("x",))
        self.assertEqual(see((text,), (("f1", "v"),), "x"), ("a",))


class NamesOf(unittest.TestCase):
    def test_none(self):
        for stack in ((), [], ("", "# x = a\n"), ("[s]\n", "when os is a\nend\n")):
            self.assertEqual(names_of(stack), ())

    def test_ascending_and_once(self):
        stack = ("y = a\n[s]\ny = a\nx += a\n", "lock y\n[s.t]\nunset a\n[S]\nz ?=\n[]\nB -= a\n")
        self.assertEqual(names_of(stack), ("B", "S.z", "s.t.a", "s.x", "s.y", "y"))

    def test_each_word(self):
        text = "a = i\nb += i\nc ^= i\nd -= i\ne ?= i\nunset f\nlock g\n"
        self.assertEqual(names_of((text,)), tuple("abcdefg"))

    def test_statements_that_hold_for_nobody(self):
        self.assertEqual(names_of(("when os is a\nwhen os is b\nx = a\nend\nend\n",)), ("x",))

    def test_at_random(self):
        for stack in plainly.random_stacks(7, 200):
            self.assertEqual(list(names_of(stack)), plainly.names(stack))
            self.assertTrue(plainly.plain(names_of(stack)))


class Arguments(unittest.TestCase):
    def test_lists_stay(self):
        stack = ["when os is a\nx = a\nend\n", "[s]\ny = b\n"]
        kept = list(stack)
        self.assertEqual(facts_of(stack=stack), (("os", ("a",)),))
        self.assertEqual(readers(stack=stack), ((), (("os", "a"),)))
        self.assertEqual(names_of(stack=stack), ("s.y", "x"))
        self.assertEqual(stack, kept)


if __name__ == "__main__":
    unittest.main()
