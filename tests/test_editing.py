"""[39] put and [40] without, and of [10] that all other lines stay."""

import unittest

import plain_edits
import plainly
from layeredwords.editing import put, without
from layeredwords.texts import is_text, lines_of, statements

LINES = {
    ("set", ("a", "b")): "x = a, b", ("set", ()): "x =", ("append", ("a",)): "x += a", ("append", ("a", "a")): "x += a, a",
    ("prepend", ("a", "b")): "x ^= a, b", ("drop", ("b", "a")): "x -= b, a", ("default", ("a.b:c@d",)): "x ?= a.b:c@d",
    ("default", ()): "x ?=", ("unset", ()): "unset x", ("lock", ()): "lock x",
}


class Put(unittest.TestCase):
    def test_words(self):
        for (word, items), line in LINES.items():
            self.assertEqual(put("", "x", word, items), line + "\n")
            self.assertEqual(put("y = c\n", "x", word, items), f"y = c\n{line}\n")
            self.assertEqual(put("y = c\n", "s.x", word, items), f"y = c\n[s]\n{line}\n")
            self.assertEqual(put("[s]\n", "s.x", word, items), f"[s]\n{line}\n")
            self.assertEqual(put("[s]\n", "x", word, items), f"[s]\n[]\n{line}\n")
            self.assertEqual(put("", "x", word, list(items)), line + "\n")
            self.assertEqual(put(text="", name="s.x", word=word, items=items), f"[s]\n{line}\n")

    def test_what_is_put_is_the_last_statement(self):
        for (word, items) in LINES:
            for text in ("", "x = a\n", "[s]\n", "when os is a\n[s]\nx = a\nend\n# c\n", "[s.t]\ny = a\n[]\n"):
                for name in ("x", "s.x", "s.t.x"):
                    told = put(text, name, word, items)
                    self.assertTrue(is_text(told))
                    self.assertEqual(statements(told)[:-1], statements(text))
                    self.assertEqual(statements(told)[-1], (len(lines_of(told)) - 1, name, word, items, ()))

    def test_the_section_in_force(self):
        for text, section in (
            ("", ""), ("x = a\n", ""), ("# [s]\n", ""), ("x = a # [s]\n", ""), ("[s]\n", "s"), ("[s]\n[]\n", ""), ("[]\n", ""),
            ("[t]\n", "t"), ("[t]\n[s]\n", "s"), ("[s]\n[t]\n", "t"), ("[s]\n[]\n[t]\n[]\n", ""), ("[]\n[s]\n", "s"),
            ("  [s]#c\n", "s"), ("[s]   # [t]\n", "s"), ("[s]\nx = a\n\n  \n# [t]\n   # []\n", "s"), ("[s]\n   []  # [t]\n", ""),
            ("when os is a\n[s]\nend\n", "s"), ("[t]\nwhen os is a\n[s]\nx = a\nend\n\n", "s"),
            ("[s]\nwhen os is a\nwhen os is b\n[]\nend\nx = a\nend\n", ""), ("[s.s]\n", "s.s"), ("[s.t.u.v]\n", "s.t.u.v"),
        ):
            for other in ("", "s", "t", "s.s", "s.t", "s.t.u.v"):
                ahead = "" if other == section else f"[{other}]\n"
                name = f"{other}.k" if other else "k"
                with self.subTest(text=text, name=name):
                    self.assertEqual(put(text, name, "set", ("a",)), text + ahead + "k = a\n")

    def test_section_and_key(self):
        self.assertEqual(put("[a]\n", "a.b.c", "lock", ()), "[a]\n[a.b]\nlock c\n")
        self.assertEqual(put("[a.b]\n", "a.b.c", "lock", ()), "[a.b]\nlock c\n")
        self.assertEqual(put("", "lock.unset.k", "unset", []), "[lock.unset]\nunset k\n")

    def test_twice(self):
        text = put(put(put("", "s.x", "set", ("a",)), "s.y", "append", ("b",)), "x", "lock", ())
        self.assertEqual(text, "[s]\nx = a\ny += b\n[]\nlock x\n")

    def test_a_long_text_becomes_longer(self):
        for text in ("\n" * 2000, "x = a\n" * 2000):
            self.assertEqual(put(text, "x", "set", ()), text + "x =\n")
            self.assertEqual(put(text, "s.x", "set", ()), text + "[s]\nx =\n")

    def test_many_items(self):
        items = tuple(f"i{at}" for at in range(15000))
        self.assertEqual(statements(put("", "x", "drop", items))[0][3], items)

    def test_any_text(self):
        for stack in plainly.random_stacks(39, 150):
            for text in stack:
                for name in ("x", "s.x", "s.t.y", "t.x"):
                    for word, items in LINES:
                        self.assertEqual(put(text, name, word, items), plain_edits.put(text, name, word, items))


class Without(unittest.TestCase):
    def test_all_its_statements_go(self):
        text = "".join(line + "\n" for line in LINES.values())
        self.assertEqual(without(text, "x"), "")
        self.assertEqual(without("y = a\n" + text + "# c\n", "x"), "y = a\n# c\n")
        self.assertEqual(without("[s]\n" + text, "s.x"), "[s]\n")
        self.assertEqual(without("[s]\n" + text, "x"), "[s]\n" + text)

    def test_names_that_it_does_not_have(self):
        for text in ("", "\n", "x = a\n", "[s]\nx = a\n", "# y = a\n", "[y]\n", "when y is y\nend\n", "x = y\n", "Y = a\nyy = a\n"):
            for name in ("y", "s.y", "t.x", "s.s.x"):
                self.assertEqual(without(text, name), text)
        self.assertEqual(without(text="x = a\n", name="x"), "")

    def test_other_lines_stay_to_the_letter(self):
        text = (
            "# head\n\n   \n[s] # in s\n  x = a # gone\n  y = a #\twith a tab\nwhen os is a#c\nlock x\n  # here\nend\n"
            "  [t]\nx = b\n[s]\nx += c#d\n[]\nx = e   # stays\n"
        )
        wanted = (
            "# head\n\n   \n[s] # in s\n  y = a #\twith a tab\nwhen os is a#c\n  # here\nend\n"
            "  [t]\nx = b\n[s]\n[]\nx = e   # stays\n"
        )
        self.assertEqual(without(text, "s.x"), wanted)
        self.assertEqual(without(wanted, "s.x"), wanted)
        self.assertEqual(without(wanted, "t.x"), wanted.replace("x = b\n", ""))
        self.assertEqual(without(wanted, "x"), wanted.replace("x = e   # stays\n", ""))

    def test_whens_and_sections_stay(self):
        text = "when os is a\nx = a\nwhen os is not b\n  x = b # c\nend\nend\n[s]\n[]\n"
        self.assertEqual(without(text, "x"), "when os is a\nwhen os is not b\nend\nend\n[s]\n[]\n")
        self.assertEqual(without("[s]\nx = a\n[t]\nx = b\n", "s.x"), "[s]\n[t]\nx = b\n")
        self.assertEqual(without("[s]\nx = a\n", "s.x"), "[s]\n")

    def test_the_same_key_elsewhere(self):
        text = "x = a\n[s]\nx = b\n[s.t]\nx = c\n"
        self.assertEqual(without(text, "x"), "[s]\nx = b\n[s.t]\nx = c\n")
        self.assertEqual(without(text, "s.x"), "x = a\n[s]\n[s.t]\nx = c\n")
        self.assertEqual(without(text, "s.t.x"), "x = a\n[s]\nx = b\n[s.t]\n")

    def test_a_long_text(self):
        self.assertEqual(without("x = a\ny = a\n" * 1000, "x"), "y = a\n" * 1000)

    def test_any_text(self):
        for stack in plainly.random_stacks(40, 200, most=9):
            for text in stack:
                for name in ("x", "y", "s.x", "s.t.y", "t.x"):
                    told = without(text, name)
                    self.assertEqual(told, plain_edits.without(text, [name]))
                    self.assertTrue(is_text(told))
                    self.assertNotIn(name, plainly.names((told,)))
                    self.assertEqual(
                        [row[1:] for row in statements(told)], [row[1:] for row in statements(text) if row[1] != name])


if __name__ == "__main__":
    unittest.main()
