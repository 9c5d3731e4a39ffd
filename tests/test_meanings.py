"""[4], [12] and [23] to [28]: meanings, against statements done one after the other."""

import itertools
import unittest

from layeredwords.errors import BadValue
from layeredwords.meanings import act, is_meaning, meaning_of, nothing, then

WORDS = ("set", "append", "prepend", "drop", "default", "unset", "lock")
LISTS = ((), ("a",), ("b",), ("a", "b"), ("b", "a"), ("a", "a"), ("c", "a", "b", "a"))
VALUES = (None,) + LISTS + (("new0",), ("new1",), ("c",), ("a", "new0", "a", "b"))


def fits(word, items):
    if word in ("unset", "lock"):
        return not items
    return bool(items) or word in ("set", "default")


STATEMENTS = tuple((word, items) for word in WORDS for items in LISTS if fits(word, items))
# Two items are enough for all ways in which statements meet.
FEW = tuple((word, items) for word, items in STATEMENTS if items in ((), ("a",), ("b", "a")))


def do(statement, setting):
    """What [23] says that a statement does to a setting, a pair of a value and whether it is locked."""
    word, items = statement
    value, locked = setting
    if locked:
        return setting
    if word == "set":
        return items, False
    if word == "unset":
        return None, False
    if word == "lock":
        return value, True
    if word == "default":
        return (items if value is None else value), False
    if word == "drop":
        return (None if value is None else tuple(item for item in value if item not in items)), False
    if word == "append":
        return (value or ()) + items, False
    return items + (value or ()), False


def all_done(statements, setting):
    for statement in statements:
        setting = do(statement, setting)
    return setting


def folded(statements):
    meaning = nothing()
    for word, items in statements:
        meaning = then(meaning, meaning_of(word, items))
    return meaning


def effects(meaning):
    return tuple(act(meaning, value, False) for value in VALUES)


def plain(value):
    if type(value) is tuple:
        return all(plain(part) for part in value)
    return type(value) in (str, bool, type(None))


SOME = tuple({folded(chosen): True for many in range(3) for chosen in itertools.product(FEW, repeat=many)})


class Raises(unittest.TestCase):
    def bad(self, at, function, *arguments):
        with self.subTest(arguments=arguments), self.assertRaises(BadValue) as caught:
            function(*arguments)
        self.assertEqual(caught.exception.at, at, arguments)


class Statement(unittest.TestCase):
    """[23]: what each of the seven words does."""

    def does(self, word, items, value, wanted):
        self.assertEqual(act(meaning_of(word, items), value, False), (wanted, word == "lock"))

    def test_set(self):
        for value in VALUES:
            self.does("set", ("b", "b"), value, ("b", "b"))
            self.does("set", (), value, ())

    def test_append(self):
        self.does("append", ("b", "a"), ("a", "c"), ("a", "c", "b", "a"))
        self.does("append", ("b", "b"), (), ("b", "b"))
        self.does("append", ("b", "a"), None, ("b", "a"))

    def test_prepend(self):
        self.does("prepend", ("b", "a"), ("a", "c"), ("b", "a", "a", "c"))
        self.does("prepend", ("b", "b"), (), ("b", "b"))
        self.does("prepend", ("b", "a"), None, ("b", "a"))

    def test_drop(self):
        self.does("drop", ("a",), ("a", "b", "a", "c", "a"), ("b", "c"))
        self.does("drop", ("c", "a", "c"), ("a", "b", "c", "b"), ("b", "b"))
        self.does("drop", ("a",), ("a",), ())
        self.does("drop", ("a",), ("b",), ("b",))
        self.does("drop", ("a",), (), ())
        self.does("drop", ("a",), None, None)

    def test_default(self):
        self.does("default", ("b", "a"), None, ("b", "a"))
        self.does("default", (), None, ())
        self.does("default", ("b",), (), ())
        self.does("default", ("b",), ("a", "a"), ("a", "a"))

    def test_unset(self):
        for value in VALUES:
            self.does("unset", (), value, None)

    def test_lock(self):
        for value in VALUES:
            self.does("lock", (), value, value)

    def test_locked_settings_stay(self):
        for word, items in STATEMENTS:
            for value in VALUES:
                self.assertEqual(act(meaning_of(word, items), value, True), (value, True))

    def test_each_statement_and_value(self):
        for statement in STATEMENTS:
            for value in VALUES:
                self.assertEqual(act(meaning_of(*statement), value, False), do(statement, (value, False)))


class IsMeaning(unittest.TestCase):
    def yes(self, *values):
        for value in values:
            with self.subTest(value=value):
                self.assertIs(is_meaning(value), True)

    def no(self, *values):
        for value in values:
            with self.subTest(value=value):
                self.assertIs(is_meaning(value), False)

    def test_const(self):
        self.yes(("const", None, False), ("const", (), True), ("const", ("b", "a", "b"), False))
        self.yes(["const", ["a"], False], ("const", ["a"], True), ["const", (), False], ["const", None, True])
        self.no(("const",), ("const", None), ("const", None, False, False), ("const", (), ()), ("const", False, None))
        self.no(("const", "a", False), ("const", ("a.",), False), ("const", ("",), False), ("const", ("a b",), False))
        self.no(("const", (1,), False), ("const", (None,), False), ("const", (("a",),), False), ("const", 0, False))
        self.no(("const", ("a" * 41,), False), ("const", True, False), ("const", "", False))

    def test_around(self):
        self.yes(("around", (), (), (), None, False), ("around", (), ("a",), (), None, True))
        self.yes(("around", ("b", "a"), ("a", "b"), ("a", "a"), ("c", "c"), False), ("around", ("a",), (), (), (), True))
        self.yes(["around", ["b"], ["a", "b"], [], ["c"], True], ("around", ["b"], (), ["b"], [], False))
        self.no(("around",), ("around", (), (), (), None), ("around", (), (), (), None, False, False))
        self.no(("around", (), (), (), False), ("around", None, False), ("around", (), False))

    def test_dropped(self):
        self.yes(("around", (), ("B", "a", "b"), (), None, False), ("around", (), (".a", "/", "0", ":"), (), None, False))
        self.no(("around", (), ("b", "a"), (), None, False), ("around", (), ("a", "a"), (), None, False))
        self.no(("around", (), ("a", "c", "b"), (), (), False), ("around", (), ("a", "b", "b"), (), (), False))
        self.no(("around", (), ("a", "B"), (), (), False))
        self.no(("around", (), None, (), None, False), ("around", (), "ab", (), None, False))

    def test_no_default(self):
        self.no(("around", ("a",), (), (), None, False), ("around", (), (), ("a",), None, False))
        self.no(("around", ["a"], (), ["a"], None, True))
        self.yes(("around", ("a",), (), (), (), False), ("around", (), (), ("a",), (), False))
        self.yes(("around", (), ("a", "b"), (), None, False))

    def test_parts_that_are_no_items(self):
        for wrong in ("", "ab", 0, True, False, ("a.",), ("a", ""), ("a b",), (None,), (("a",),), ("a" * 41,), [["a"]]):
            self.no(("around", wrong, (), (), (), False), ("around", (), wrong, (), (), False))
            self.no(("around", (), (), wrong, (), False), ("around", (), (), (), wrong, False))
            self.no(("const", wrong, False))
        self.no(("around", None, (), (), (), False), ("around", (), (), None, (), False))

    def test_locked_is_true_or_false(self):
        for wrong in (0, 1, None, "", "False", (), [], (True,)):
            self.no(("const", None, wrong), ("around", (), (), (), None, wrong))

    def test_other_values(self):
        self.no(None, True, False, 0, 3, -10 ** 30, "", "const", "around", "constxyz", (), [], ((),), [[]], (((()))))
        self.no((None, None, False), (0, (), True), ("set", (), False), ("Const", None, False), (("const",), None, False))
        self.no((True, (), (), (), None, False), ("nothing",), (["around"], (), (), (), None, False))


class MeaningOf(Raises):
    def test_each_word(self):
        self.assertEqual(meaning_of("set", ("b", "a", "b")), ("const", ("b", "a", "b"), False))
        self.assertEqual(meaning_of("set", ()), ("const", (), False))
        self.assertEqual(meaning_of("append", ("b", "a")), ("around", (), (), ("b", "a"), (), False))
        self.assertEqual(meaning_of("prepend", ("b", "a")), ("around", ("b", "a"), (), (), (), False))
        self.assertEqual(meaning_of("drop", ("b", "a", "b")), ("around", (), ("a", "b"), (), None, False))
        self.assertEqual(meaning_of("default", ("b", "a")), ("around", (), (), (), ("b", "a"), False))
        self.assertEqual(meaning_of("default", ()), ("around", (), (), (), (), False))
        self.assertEqual(meaning_of("unset", ()), ("const", None, False))
        self.assertEqual(meaning_of("lock", ()), ("around", (), (), (), None, True))

    def test_lists(self):
        for word, items in STATEMENTS:
            given = list(items)
            found = meaning_of(word, given)
            self.assertEqual(found, meaning_of(word, items))
            self.assertTrue(plain(found))
            self.assertEqual(given, list(items))

    def test_all_are_meanings(self):
        for word, items in STATEMENTS:
            self.assertIs(is_meaning(meaning_of(word, items)), True)

    def test_wrong_word(self):
        for word in ("", "Set", "set ", "=", "when", "end", None, True, 0, ("set",), ["set"], (("set",),)):
            self.bad(1, meaning_of, word, ("a",))
            self.bad(1, meaning_of, word, None)

    def test_wrong_items(self):
        for word in WORDS:
            for items in (None, True, 0, "", "a", ("a.",), ("",), (None,), (("a",),), ("a b",), ("a", 1), ("a" * 41,)):
                self.bad(2, meaning_of, word, items)

    def test_how_many_items(self):
        for word in ("unset", "lock"):
            self.bad(2, meaning_of, word, ("a",))
            self.bad(2, meaning_of, word, ["a", "b"])
        for word in ("append", "prepend", "drop"):
            self.bad(2, meaning_of, word, ())
            self.bad(2, meaning_of, word, [])

    def test_names_of_arguments(self):
        self.assertEqual(meaning_of(items=("a",), word="set"), ("const", ("a",), False))
        self.assertEqual(then(second=meaning_of("set", ()), first=nothing()), ("const", (), False))
        self.assertEqual(act(locked=False, value=None, meaning=nothing()), (None, False))
        self.assertIs(is_meaning(value=()), False)


class Nothing(unittest.TestCase):
    def test_nothing(self):
        self.assertEqual(nothing(), ("around", (), (), (), None, False))
        self.assertTrue(plain(nothing()))

    def test_it_leaves_settings(self):
        for value in VALUES:
            for locked in (False, True):
                self.assertEqual(act(nothing(), value, locked), (value, locked))

    def test_it_leaves_meanings(self):
        for meaning in SOME:
            self.assertEqual(then(nothing(), meaning), meaning)
            self.assertEqual(then(meaning, nothing()), meaning)


class Then(Raises):
    def test_examples(self):
        around = ("around", ("a", "b"), ("d",), ("b", "c"), ("d", "b"), False)
        drop = ("around", ("b",), ("b", "c"), ("c",), ("z",), True)
        self.assertEqual(then(around, drop), ("around", ("b", "a"), ("b", "c", "d"), ("c",), ("d",), True))
        self.assertEqual(then(drop, around), drop)
        self.assertEqual(then(around, ("const", None, True)), ("const", None, True))
        self.assertEqual(then(("const", ("c", "e"), False), drop), ("const", ("b", "e", "c"), True))
        self.assertEqual(then(("const", None, False), drop), ("const", ("b", "z", "c"), True))
        self.assertEqual(then(("const", None, True), drop), ("const", None, True))
        self.assertEqual(then(("around", (), ("x",), (), None, False), drop),
                         ("around", ("b",), ("b", "c", "x"), ("c",), ("z",), True))

    def test_the_empty_default_is_not_none(self):
        first = ("around", (), (), (), (), False)
        self.assertEqual(then(first, meaning_of("default", ("a",))), first)
        self.assertEqual(then(meaning_of("drop", ("a",)), meaning_of("default", ())),
                         ("around", (), ("a",), (), (), False))
        self.assertEqual(then(meaning_of("default", ("a",)), meaning_of("drop", ("a",))),
                         ("around", (), ("a",), (), (), False))

    def test_statements_one_after_the_other(self):
        for chosen in itertools.product(FEW, repeat=3):
            meaning = folded(chosen)
            for value in VALUES:
                if act(meaning, value, False) != all_done(chosen, (value, False)):
                    self.fail((chosen, value))

    def test_all_are_meanings_of_plain_tuples(self):
        for meaning in SOME:
            self.assertIs(is_meaning(meaning), True)
            self.assertTrue(plain(meaning))

    def test_act_of_then(self):
        for first, second in itertools.product(SOME, repeat=2):
            both = then(first, second)
            for value in (None, (), ("a", "b", "new0")):
                if act(both, value, False) != act(second, *act(first, value, False)):
                    self.fail((first, second, value))

    def test_a_setting_that_is_locked(self):
        for first, second in itertools.product(SOME[:20], repeat=2):
            self.assertEqual(act(then(first, second), ("a", "b"), True), (("a", "b"), True))

    def test_brackets_on_either_side(self):
        single = [meaning_of(*statement) for statement in FEW] + list(SOME[-12:])
        for first, second, third in itertools.product(single, repeat=3):
            if then(then(first, second), third) != then(first, then(second, third)):
                self.fail((first, second, third))

    def test_lists(self):
        first = ["around", ["a"], ["b"], ["c"], ["d"], False]
        second = ["const", ["a"], True]
        third = ["around", [], ["a"], [], None, True]
        for one, other in itertools.product((first, second, third), repeat=2):
            kept = repr((one, other))
            found = then(one, other)
            self.assertTrue(plain(found), found)
            self.assertEqual(repr((one, other)), kept)
        self.assertEqual(then(second, first), ("const", ("a",), True))
        self.assertEqual(then(third, nothing()), ("around", (), ("a",), (), None, True))
        self.assertEqual(then(first, ["const", None, False]), ("const", None, False))

    def test_wrong(self):
        good = nothing()
        for wrong in (None, True, 0, "const", (), ("const",), ("around", ("a",), (), (), None, False),
                      ("around", (), ("b", "a"), (), None, False), ("const", None, 0)):
            self.bad(1, then, wrong, good)
            self.bad(2, then, good, wrong)
            self.bad(1, then, wrong, wrong)
            self.bad(2, then, ("const", None, True), wrong)


class Act(Raises):
    def test_const(self):
        for value in VALUES:
            self.assertEqual(act(("const", ("a", "a"), False), value, False), (("a", "a"), False))
            self.assertEqual(act(("const", None, True), value, False), (None, True))
            self.assertEqual(act(("const", ("a",), False), value, True), (value, True))

    def test_around(self):
        meaning = ("around", ("a", "p"), ("a", "b"), ("s", "b"), ("a", "d"), False)
        self.assertEqual(act(meaning, ("b", "c", "a", "c", "b"), False), (("a", "p", "c", "c", "s", "b"), False))
        self.assertEqual(act(meaning, (), False), (("a", "p", "s", "b"), False))
        self.assertEqual(act(meaning, None, False), (("a", "p", "a", "d", "s", "b"), False))
        self.assertEqual(act(meaning, None, True), (None, True))
        self.assertEqual(act(("around", (), ("a",), (), None, True), None, False), (None, True))
        self.assertEqual(act(("around", (), ("a",), (), None, True), ("a", "b"), False), (("b",), True))

    def test_lists(self):
        meaning, value = ["around", ["a"], ["b"], ["c"], ["d"], True], ["b", "d"]
        for given in (meaning, ["const", ["a"], False], ["around", [], [], [], None, False]):
            for start, locked in itertools.product((value, [], None), (True, False)):
                found = act(given, start, locked)
                self.assertTrue(plain(found), found)
                self.assertEqual(len(found), 2)
        self.assertEqual(act(meaning, value, False), (("a", "d", "c"), True))
        self.assertEqual((meaning, value), (["around", ["a"], ["b"], ["c"], ["d"], True], ["b", "d"]))

    def test_wrong_meaning(self):
        for wrong in (None, 1, "const", (), ("const", "a", False), ("around", (), ("a", "a"), (), None, False)):
            self.bad(1, act, wrong, (), False)
            self.bad(1, act, wrong, 5, 5)

    def test_wrong_value(self):
        for wrong in (True, False, 0, "", "a", ("a.",), (None,), (("a",),), ("a", 1), ("a b",)):
            self.bad(2, act, nothing(), wrong, False)
            self.bad(2, act, nothing(), wrong, True)
            self.bad(2, act, ("const", None, False), wrong, 1)

    def test_wrong_locked(self):
        for wrong in (0, 1, None, "", "True", (), [True]):
            self.bad(3, act, nothing(), None, wrong)
            self.bad(3, act, ("const", (), True), ["a"], wrong)


class Same(unittest.TestCase):
    """[27] and [28]: when two meanings are the same tuple."""

    def test_the_same_exactly_if_act_returns_the_same(self):
        seen = {}
        for meaning in [folded(chosen) for chosen in itertools.product(FEW, repeat=3)] + list(SOME):
            self.assertEqual(seen.setdefault(effects(meaning), meaning), meaning)

    def test_two_ways_to_one_meaning(self):
        def ways(*statements):
            return folded(statements)

        self.assertEqual(ways(("set", ("a",)), ("append", ("b",))), ways(("set", ("a", "b"))))
        self.assertEqual(ways(("drop", ("b",)), ("drop", ("a",))), ways(("drop", ("a", "b"))))
        self.assertEqual(ways(("append", ("a",)), ("drop", ("a",))), ways(("default", ()), ("drop", ("a",))))
        self.assertNotEqual(ways(("drop", ("a",)), ("append", ("a",))), ways(("append", ("a",)), ("drop", ("a",))))
        self.assertNotEqual(ways(("append", ("a",))), ways(("prepend", ("a",))))
        self.assertNotEqual(ways(("append", ("a",))), ways(("default", ("a",))))


if __name__ == "__main__":
    unittest.main()
