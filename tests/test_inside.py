"""What later modules stand on: [12] integers, [16] sections, [17] and [18] holds, [19] check_stack, [28] trials."""

import itertools
import unittest

from layeredwords.errors import BadLine, BadValue, TooMany
from layeredwords.meanings import act, meaning_of, nothing, then, trials
from layeredwords.texts import check_stack, holds, section_at_end, statements
from layeredwords.words import is_ascending, is_whole_number


def held(text, reader):
    """The lines of the statements of a text that hold for a reader."""
    return [row[0] for row in statements(text) if holds(row[4], reader)]


class Holds(unittest.TestCase):
    def test_no_conditions(self):
        for reader in ((), [], (("os", "a"),), [["os", "a"]]):
            self.assertIs(holds((), reader), True)

    def test_is(self):
        condition = (("os", ("a", "b"), True),)
        for reader, wanted in (((), False), ((("os", "a"),), True), ((("os", "b"),), True), ((("os", "c"),), False)):
            self.assertIs(holds(condition, reader), wanted)
        self.assertIs(holds(condition, (("no", "a"), ("pc", "a"))), False)

    def test_is_not(self):
        condition = (("os", ("a", "b"), False),)
        for reader, wanted in (((), True), ((("os", "a"),), False), ((("os", "b"),), False), ((("os", "c"),), True)):
            self.assertIs(holds(condition, reader), wanted)
        self.assertIs(holds(condition, (("no", "a"), ("pc", "a"))), True)

    def test_all_conditions(self):
        text = "when a is x\nwhen b is not y\nk = 1\nend\nk = 2\nend\nwhen a is x\nwhen a is not x\nk = 3\nend\nend\n"
        self.assertEqual(held(text, (("a", "x"),)), [2, 4])
        self.assertEqual(held(text, (("a", "x"), ("b", "y"))), [4])
        self.assertEqual(held(text, [["a", "x"], ["b", "z"]]), [2, 4])
        self.assertEqual(held(text, (("a", "z"), ("b", "z"))), [])
        self.assertEqual(held(text, ()), [])


class Stacks(unittest.TestCase):
    def test_good_stacks(self):
        for stack in ((), [], ("",), ["x = a\n", "# c\n"], ("",) * 40, ("\n" * 50,) * 40, ["\n" * 2000, ""]):
            self.assertIsNone(check_stack(stack, 1))

    def test_no_sequence_of_strings(self):
        for at in (1, 2):
            for value in (None, True, 0, "", "x = a\n", (1,), ("", None), [["x = a\n"]], ("",) * 50 + (1,), ("bad", 1)):
                with self.subTest(value=value), self.assertRaises(BadValue) as caught:
                    check_stack(value, at)
                self.assertEqual(caught.exception.at, at)

    def test_too_many(self):
        for stack, word in (
            (("",) * 41, "layers"), (("bad",) * 41, "layers"), (("\n" * 2001,) * 41, "layers"),
            (("\n" * 2001,), "lines"), (("\n" * 50,) * 39 + ("\n" * 51,), "lines"),
            (("\n" * 1999, "", "\n\n"), "lines"), (("\n" * 1999, "#", "#"), "lines"), (("bad\n", "\n" * 2000), "lines"),
        ):
            with self.assertRaises(TooMany) as caught:
                check_stack(stack, 1)
            self.assertEqual(caught.exception.word, word)

    def test_bad_lines(self):
        for stack, layer, at in (
            (("bad\n",), 0, 0), (("\n", "", "x = a\nbad\n", "bad\n"), 2, 1), (("x = a\n", "\n\nend\n"), 1, 2),
            (("\nwhen os is a\n", "end\n"), 0, 1), (("\n\nx = a", "bad\n"), 0, 2), (("\n" * 1999, "#"), 1, 0),
        ):
            with self.assertRaises(BadLine) as caught:
                check_stack(stack, 1)
            self.assertEqual((caught.exception.layer, caught.exception.at), (layer, at))


class Numbers(unittest.TestCase):
    def test_whole_numbers(self):
        for value in (0, 1, -1, 10 ** 30, -10 ** 30):
            self.assertIs(is_whole_number(value), True)
        for value in (True, False, None, "", "1", (), [], (1,)):
            self.assertIs(is_whole_number(value), False)

    def test_ascending(self):
        for values in ((), (3,), (0, 1, 5), [-2, -1], ("B", "a"), ["a", "aa"]):
            self.assertIs(is_ascending(values), True)
        for values in ((0, 0), (1, 0), [0, 2, 1], ("a", "a"), ("a", "B")):
            self.assertIs(is_ascending(values), False)


class Sections(unittest.TestCase):
    def test_at_the_end(self):
        for text, wanted in (
            ("", ""), ("x = a\n# [s]\n", ""), ("[s]\nx = a\n", "s"), ("[s]\n  [t.u] # c\n\n", "t.u"), ("[s]\n[]#c\n", ""),
            ("when os is a\n[s]\nend\n", "s"),
        ):
            self.assertEqual(section_at_end(text), wanted)


class Trials(unittest.TestCase):
    def test_order(self):
        self.assertEqual(trials((nothing(),)), (None, (), ("new0",)))
        self.assertEqual(trials(()), (None, (), ("new0",)))
        first = ("around", ("d", "b"), ("a", "c"), ("b", "e"), ("f", "B"), False)
        self.assertEqual(trials((first, ("const", ("g", "a"), True))), (
            None, (), ("B",), ("a",), ("b",), ("c",), ("d",), ("e",), ("f",), ("g",), ("new0",),
        ))
        self.assertEqual(trials((("const", None, False), ("const", (), False))), (None, (), ("new0",)))

    def test_the_fresh_item(self):
        for items, fresh in ((("new0",), "new1"), (("new1",), "new0"), (("new2", "new0", "new1"), "new3")):
            for word in ("set", "append", "prepend", "drop", "default"):
                self.assertEqual(trials((meaning_of(word, items),))[-1], (fresh,))
        self.assertEqual(trials((meaning_of("set", ("new1",)), meaning_of("drop", ("new0",))))[-1], ("new2",))
        self.assertEqual(trials((meaning_of("set", ("new10", "new", "New0", "new00")),))[-1], ("new0",))

    def test_one_trial_tells_two_meanings(self):
        chosen = [("set", ()), ("set", ("a",)), ("append", ("a",)), ("prepend", ("a",)), ("prepend", ("new0", "a")),
                  ("drop", ("a",)), ("drop", ("a", "new0")), ("default", ()), ("default", ("a",)), ("unset", ())]
        single = [meaning_of(word, items) for word, items in chosen]
        found = list({then(*pair): True for pair in itertools.product(single, repeat=2)})
        found += [("const", meaning[1], True) if meaning[0] == "const" else (*meaning[:5], True) for meaning in found]
        for one, other in itertools.combinations(found, 2):
            if one[-1] == other[-1] and all(act(one, value, False) == act(other, value, False) for value in trials((one, other))):
                self.fail((one, other))


if __name__ == "__main__":
    unittest.main()
