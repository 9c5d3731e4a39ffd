"""[45] to [48] merge; and of part 2, [9] merging and [10] lines stay."""

import random
import unittest

import plain_edits
import plainly
from layeredwords.comparing import alike, meaning
from layeredwords.errors import BadLine, BadValue, TooMany
from layeredwords.merging import merge
from layeredwords.normal import normal_text
from layeredwords.texts import is_text, lines_of

NOTHING = ("around", (), (), (), None, False)


def const(*items):
    return ("const", items, False)


def when(condition, *lines):
    return "".join(line + "\n" for line in (f"when {condition}", *lines, "end"))


class Merged(unittest.TestCase):
    def merges(self, base, ours, theirs, told):
        self.assertEqual(merge(base, ours, theirs), ("merged", told))
        word, turned = merge(base, theirs, ours)
        self.assertEqual(word, "merged")
        self.assertTrue(alike((told,), (turned,)))

    def test_only_ours_changes(self):
        self.merges("x = a\n", "x = b\n", "x = a\n", "x = b\n")
        self.merges("", "x = b # c\n", "", "x = b # c\n")
        self.merges("x = a\n", "", "x = a\n", "")
        self.merges("x = a\ny = a\n", "x = a\ny = b\n", "x = a\ny = a\n", "x = a\ny = b\n")

    def test_only_theirs_changes(self):
        self.merges("x = a\n", "x = a\n", "x = b\n", "x = b\n")
        self.merges("", "", "x = b # c\n", "x = b\n")
        self.merges("x = a\n", "x = a\n", "", "")
        self.merges("x = a\ny = a\n", "x = a # c\ny = a # d\n", "x = a\ny = b\n", "x = a # c\ny = b\n")

    def test_each_changes_one(self):
        self.merges("x = a\ny = a\n", "x = b\ny = a\n", "x = a\ny = b\n", "x = b\ny = b\n")
        self.merges("", "x = a\n", "y = a\n", "x = a\ny = a\n")
        self.merges("x = a\ny = a\n", "x = a\n", "y = a\n", "")

    def test_both_make_the_same(self):
        self.merges("x = a\n", "x = b # c\n", "x = b\n", "x = b # c\n")
        self.merges("x = a\n", "x = b\nx += c\n", "x = b, c\n", "x = b\nx += c\n")
        self.merges("x = a\n", "# c\n", "", "# c\n")
        self.merges("", "x = a\nlock x\n", "x = a\nlock x\nx = b\n", "x = a\nlock x\n")

    def test_theirs_means_what_base_means(self):
        for ours in ("", "# c\n", "  x = q   # c\n\n[s]\nwhen os is a\nend\nx = c\n[]\nx += d\n", "x = a\nx += b\n", "lock x\n"):
            for theirs in ("x = a, b\n", "# d\n[t]\n[]\nx = b\nx ^= a\n", "unset x\nx ?= a, b\n", "x = a, b\n" + when("os is b")):
                self.assertEqual(merge("x = a\nx += b\n", ours, theirs), ("merged", ours))

    def test_for_each_reader_apart(self):
        base = "x = a\n"
        ours = "x = a\n" + when("os is a", "x = b")
        theirs = "x = a\n" + when("os is b", "x = c")
        told = when("os is a", "x = b") + when("os is b", "x = c") + when("os is not a, b", "x = a")
        self.merges(base, ours, theirs, when("os is a") + told)
        self.merges(base, "x = b\n", "x = b\n" + when("os is a", "x = a"), "x = b\n")
        self.merges(base, "x = b\n" + when("os is a", "x = a"), "x = b\n", when("os is a") + "x = b\n")

    def test_several_facts(self):
        ours = when("at is p", "x += a")
        theirs = when("os is a, b", "x = b")
        self.assertEqual(merge("", "", theirs), ("merged", when("os is a", "x = b") + when("os is b", "x = b")))
        self.assertEqual(merge("", "# c\n", when("os is not a", "x = b")), ("merged", "# c\n" + when("os is not a", "x = b")))
        word, clashes = merge("", ours, theirs)
        self.assertEqual((word, [clash[1] for clash in clashes]), (
            "clash", [(("at", "p"), ("os", "a")), (("at", "p"), ("os", "b"))]))
        theirs = when("at is not p", "when os is a", "x = b", "end")
        told = when("at is p", "x += a") + when("at is not p", "when os is a", "x = b", "end")
        self.merges("", ours, theirs, when("at is p") + told)
        theirs = when("at is not p", "when os is not a", "lock x", "end")
        told = when("at is p", "x += a") + when("at is not p", "when os is not a", "lock x", "end")
        self.merges("", ours, theirs, when("at is p") + told)

    def test_the_lines_of_a_form(self):
        for theirs in ("x -= b, a\nx ?= c\nx ^= d\nx += e\nlock x\n", "unset x\nlock x\n", "x =\n", "lock x\n", "x += a\n", "x ?=\n"):
            told = normal_text((theirs,))
            self.merges("", "", theirs, told)
            self.merges("", "y = a # c\n", theirs, "y = a # c\n" + told)
            self.merges("", "[s]\ny = a # c\n", theirs, "[s]\ny = a # c\n[]\n" + told)

    def test_lines_of_ours_stay(self):
        base = "x = a\ny = a\n[s]\nx = a\n"
        ours = "# head\n\n  x = a  # gone\n   \nwhen os is a#c\n x += b\ny += b # stays\nend\n[s]\n[t] # c\n[s]\nx = a#d\n[]\n"
        theirs = "# theirs\nx = c\ny = a\n[s]\nx = a\n"
        # x: for os a, ours is changed too.
        self.assertEqual(merge(base, ours.replace("y += b", "x -= b"), "y = a\nx = a\n")[0], "merged")
        self.assertEqual(merge(base, ours, theirs)[0], "clash")
        ours = ours.replace(" x += b\n", "# c\n").replace("  x = a", "  x = a\ny = a\nx += b\nx -= b\nx = a")
        self.assertEqual(merge(base, ours, theirs), ("merged", (
            "# head\n\ny = a\n   \nwhen os is a#c\n# c\ny += b # stays\nend\n[s]\n[t] # c\n[s]\nx = a#d\n[]\nx = c\n")))

    def test_whens_and_sections_stay(self):
        base = "[s]\n" + when("os is a", "x = a", "when at is p", "x = b", "end") + "[t]\ny = a\n[]\n"
        told = "[s]\nwhen os is a\nwhen at is p\nend\nend\n[t]\n[]\n"
        self.merges(base, base, "", told)
        self.merges(base, base, "[s]\nx = a\n", told + "[s]\nx = a\n")

    def test_the_section_in_force(self):
        for ours, theirs, told in (
            ("", "[s]\nx = a\n", "[s]\nx = a\n"), ("[s]\n", "[s]\nx = a\n", "[s]\nx = a\n"), ("[s]\n", "x = a\n", "[s]\n[]\nx = a\n"),
            ("[s]\n", "[t]\nx = a\n", "[s]\n[t]\nx = a\n"), ("[s]\n[] # c\n", "x = a\n", "[s]\n[] # c\nx = a\n"),
            ("[s]\n# c\n\n", "[s]\ny = b\nx = a\n", "[s]\n# c\n\nx = a\ny = b\n"),
            (when("os is a", "[s]"), "[s]\nx = a\n", when("os is a", "[s]") + "x = a\n"),
            ("[s]\n", "x = a\n[s]\nx = a\n[s.t]\nx = a\n", "[s]\n[s.t]\nx = a\n[s]\nx = a\n[]\nx = a\n"),
            ("", "b = a\n[a]\nz = a\n[c]\na = a\n[]\nd = a\n[a]\ny = a\n", "[a]\ny = a\nz = a\n[]\nb = a\n[c]\na = a\n[]\nd = a\n"),
        ):
            self.merges("", ours, theirs, told)

    def test_names_without_lines(self):
        self.merges("x = a\n", "x = a\ny = b # c\n", "", "y = b # c\n")
        self.merges("[s]\nx = a\n[]\n", "[s]\nx = a\n[]\ny = b\n", "", "[s]\n[]\ny = b\n")
        self.merges("[a]\nx = a\n[b]\nx = a\n[c]\nx = a\n", "[a]\nx = a\n[b]\nx = a\n[c]\nx = a\n", "[a]\nx = b\n[c]\nx = b\n",
                    "[a]\n[b]\n[c]\n[a]\nx = b\n[c]\nx = b\n")
        self.merges(when("os is a", "x = a"), when("os is a", "x = a"), "", "when os is a\nend\n")

    def test_names_that_only_say_nothing(self):
        self.merges("", "x -= a\nunset x\n", "", "x -= a\nunset x\n")
        self.assertEqual(merge("x = a\nx += b\n", "x = a\nx += b # c\n", "x = a, b\ny = c\n"), (
            "merged", "x = a\nx += b # c\ny = c\n"))

    def test_by_name_and_with_plain_answers(self):
        told = merge(base="", ours="# c\n", theirs="x = a\n")
        self.assertEqual(told, ("merged", "# c\nx = a\n"))
        self.assertTrue(plainly.plain(told))
        self.assertEqual(merge("", "", ""), ("merged", ""))


class Clashes(unittest.TestCase):
    def clashes(self, base, ours, theirs, *told):
        self.assertEqual(merge(base, ours, theirs), ("clash", told))
        turned = tuple((name, reader, of_base, last, middle) for name, reader, of_base, middle, last in told)
        self.assertEqual(merge(base, theirs, ours), ("clash", turned))
        self.assertTrue(plainly.plain(merge(base, ours, theirs)))

    def test_for_all_readers(self):
        self.clashes("x = a\n", "x = b\n", "x = c\n", ("x", (), const("a"), const("b"), const("c")))
        self.clashes("x = a\n", "", "x = c\n", ("x", (), const("a"), NOTHING, const("c")))
        self.clashes("", "x = b\n", "x = b\nlock x\n", ("x", (), NOTHING, const("b"), ("const", ("b",), True)))
        self.clashes("[s]\nx = a\n", "[s]\nunset x\n", "[s]\nx =\n", ("s.x", (), const("a"), ("const", None, False), const()))
        base = "x = a\n" + when("os is b, a")
        self.clashes(base, "x = b\n", "x = c\n", *[
            ("x", reader, const("a"), const("b"), const("c")) for reader in ((), (("os", "a"),), (("os", "b"),))])

    def test_for_one_reader(self):
        ours, theirs = when("os is a", "x = b"), when("os is a, b", "x = c")
        self.clashes("", ours, theirs, ("x", (("os", "a"),), NOTHING, const("b"), const("c")))
        ours, theirs = when("os is not a", "x = b"), when("at is not p", "x = c")
        self.clashes("", ours, theirs, ("x", (), NOTHING, const("b"), const("c")))

    def test_the_facts_of_all_whens(self):
        base, ours, theirs = "x = a\n" + when("a is v"), "x = b\n" + when("c is v"), "x = c\n" + when("b is v, u")
        readers = plainly.readers((base, ours, theirs))
        self.assertEqual(len(readers), 12)
        self.clashes(base, ours, theirs, *[("x", reader, const("a"), const("b"), const("c")) for reader in readers])

    def test_for_several_names(self):
        base = "z = a\ny = a\n[s]\ny = a\n[a]\nz = a\n"
        names = ("a.z", "s.y", "y", "z")
        ours, theirs = base.replace("= a", "= b"), base.replace("= a", "= c")
        self.clashes(base, ours, theirs, *[(name, (), const("a"), const("b"), const("c")) for name in names])
        ours += "k = a\n"
        theirs += "[]\n" + when("os is a", "y = q") + "[b]\nk = d\n"
        self.clashes(base, ours, theirs, *[
            (name, reader, const("a"), const("b"), const("q") if name == "y" and reader else const("c"))
            for name in names for reader in ((), (("os", "a"),))])

    def test_512_clashes(self):
        base = "".join(f"x{at:03} = a\n" for at in range(513))
        few = "".join(f"x{at:03} = a\n" for at in range(512))
        word, told = merge(few, few.replace("= a", "= b"), few.replace("= a", "= c"))
        self.assertEqual((word, len(told)), ("clash", 512))
        self.assertEqual(told[511], ("x511", (), const("a"), const("b"), const("c")))
        self.too_many("clashes", base, base.replace("= a", "= b"), base.replace("= a", "= c"))

    def test_512_clashes_of_few_names(self):
        values = ", ".join(f"v{at}" for at in range(511))
        base = when(f"os is {values}", "x = a")
        word, told = merge(base, base.replace("= a", "= b"), base.replace("= a", "= c"))
        self.assertEqual((word, len(told)), ("clash", 511))
        ours, theirs = base.replace("= a", "= b") + "y = b\n", base.replace("= a", "= c") + when("os is v7", "y = c")
        word, told = merge(base, ours, theirs)
        self.assertEqual((word, len(told), told[-1][:2]), ("clash", 512, ("y", (("os", "v7"),))))
        self.too_many("clashes", base, ours, theirs.replace("os is v7\n", "os is v7, v8\n"))
        self.too_many("clashes", base, ours + "lock x\n", theirs.replace("os is v7\n", "os is not v7\n"))
        self.too_many("clashes", "x = a\ny = a\n" + base, "x = b\ny = b\n" + ours, "x = c\ny = c\n" + theirs)

    def too_many(self, word, *texts):
        with self.assertRaises(TooMany) as caught:
            merge(*texts)
        self.assertEqual(caught.exception.word, word)


class Limits(unittest.TestCase):
    def raises(self, error, told, *texts):
        with self.assertRaises(error) as caught:
            merge(*texts)
        self.assertEqual(caught.exception.__dict__, told)

    def test_readers(self):
        texts = [when(f"{fact} is " + ", ".join(f"v{at}" for at in range(7))) for fact in "abc"]
        self.assertEqual(merge(*texts), ("merged", texts[1]))
        word, told = merge("x = a\n" + texts[0], "x = b\n" + texts[1], "x = c\n" + texts[2])
        self.assertEqual((word, len(told)), ("clash", 512))
        for at in range(3):
            more = list(texts)
            more[at] = more[at].replace("v6", "v6, v7")
            self.raises(TooMany, {"word": "readers"}, *more)
            self.raises(TooMany, {"word": "readers"}, *[f"x = {at}\n" + text for at, text in enumerate(more)])
        many = when("os is " + ", ".join(f"v{at}" for at in range(511)), "x = a")
        self.assertEqual(merge(many, many, many), ("merged", many))
        self.assertEqual(merge(many, many, many + "y = a\n"), ("merged", many + "y = a\n"))
        self.raises(TooMany, {"word": "readers"}, many, many, many + when("os is v511"))
        self.raises(TooMany, {"word": "readers"}, many, when("os is v511"), many)
        self.raises(TooMany, {"word": "readers"}, "", when("os is v511"), many)
        self.raises(TooMany, {"word": "readers"}, when("at is v"), many, many)

    def test_lines(self):
        for ours, theirs, told in (
            ("\n" * 1999, "x = a\n", "\n" * 1999 + "x = a\n"), ("\n" * 1998, "[s]\nx = a\n", "\n" * 1998 + "[s]\nx = a\n"),
            ("\n" * 1998, "x -= a\nlock x\n", "\n" * 1998 + "x -= a\nlock x\n"),
            ("\n" * 1997 + "[s]\n[]\n", "x = a\n", "\n" * 1997 + "[s]\n[]\nx = a\n"),
        ):
            self.assertEqual(merge("", ours, theirs), ("merged", told))
            self.assertEqual(len(lines_of(told)), 2000)
            self.assertTrue(is_text(told))
            self.raises(TooMany, {"word": "lines"}, "", ours + "# c\n", theirs)
        self.raises(TooMany, {"word": "lines"}, "", "\n" * 2000, "x = a\n")
        self.raises(TooMany, {"word": "lines"}, "", "\n" * 1999, "x = a\ny = a\n")
        self.raises(TooMany, {"word": "lines"}, "", "x = a\n" * 1000, "".join(f"y{at} = a\n" for at in range(1001)))

    def test_lines_that_go_make_room(self):
        ours = "x = a\n" + "\n" * 1999
        self.assertEqual(merge("x = a\n", ours, "x = b\n"), ("merged", "\n" * 1999 + "x = b\n"))
        self.assertEqual(merge("x = a\n", ours, ""), ("merged", "\n" * 1999))
        self.raises(TooMany, {"word": "lines"}, "x = a\n", ours, "x = b\nlock x\n")
        self.assertEqual(merge("", ours, ""), ("merged", ours))
        self.assertEqual(merge("", ours, "\n" * 2000), ("merged", ours))
        self.assertEqual(merge("", "x = a\n" * 2000, "x = a\n"), ("merged", "x = a\n" * 2000))

    def test_the_order_of_parties_and_lines(self):
        self.raises(TooMany, {"word": "lines"}, "", "\n" * 2000, "x = a\n")
        self.assertEqual(merge("", "x = a\n", "\n" * 2000), ("merged", "x = a\n"))

    def test_a_clash_comes_ahead_of_lines(self):
        self.assertEqual(merge("", "x = b\n" + "\n" * 1999, "x = c\ny = a\n")[0], "clash")
        names = "".join(f"x{at} = a\n" for at in range(513))
        ours, theirs = names.replace("= a", "= b") + "\n" * 1487, names.replace("= a", "= c") + "y = a\n"
        self.raises(TooMany, {"word": "clashes"}, names, ours, theirs)

    def test_readers_come_ahead_of_clashes_and_lines(self):
        many = "".join(when(f"{fact} is v") for fact in "abcdefghij")
        self.raises(TooMany, {"word": "readers"}, many, "x = b\n", "x = c\n")
        self.raises(TooMany, {"word": "readers"}, "", "\n" * 2000, many + "x = c\n")

    def test_wrong_texts(self):
        good = ["x = a\n", "x = b\n", "x = c\n"]
        for at in range(3):
            for text in (None, True, 0, (), [], ("x = a\n",), ["x = a\n"], [[]], 10 ** 30):
                self.raises(BadValue, {"at": at + 1}, *good[:at], text, *good[at + 1:])
                self.raises(BadValue, {"at": at + 1}, *good[:at], text, *["bad"] * (2 - at))
                self.raises(BadValue, {"at": at + 1}, *good[:at], text, *[None] * (2 - at))
            for text, line in (("bad\n", 0), ("x = a", 0), ("\n\nend\n", 2), ("x = a\nwhen os is a\n", 1), ("\n" * 1999 + "[", 1999)):
                self.raises(BadLine, {"layer": 0, "at": line}, *good[:at], text, *good[at + 1:])
                self.raises(BadLine, {"layer": 0, "at": line}, *good[:at], text, *[None] * (2 - at))
                self.raises(BadLine, {"layer": 0, "at": line}, *good[:at], text, *["bad\n"] * (2 - at))
            for text in ("\n" * 2001, "bad\n" * 2001, "\n" * 2000 + "#"):
                self.raises(TooMany, {"word": "lines"}, *good[:at], text, *good[at + 1:])
                self.raises(TooMany, {"word": "lines"}, *good[:at], text, *["bad"] * (2 - at))
            full = [text + "\n" * 1999 for text in good]
            self.assertEqual(merge(*full)[0], "clash")


class AnyTexts(unittest.TestCase):
    def edited(self, rng, text):
        lines = list(lines_of(text))
        for _ in range(rng.randrange(3)):
            at = rng.randrange(len(lines) + 1)
            if rng.random() < 0.5 or at == len(lines):
                lines.insert(at, plainly.random_line(rng))
            elif lines[at] != "end" and not lines[at].startswith("when"):
                lines.pop(at)
        return "".join(line + "\n" for line in lines)

    def three(self, rng):
        base = plainly.random_text(rng, 8)
        if rng.random() < 0.6:
            return base, self.edited(rng, base), self.edited(rng, base)
        return base, plainly.random_text(rng, 5), plainly.random_text(rng, 5)

    def test_as_the_document_tells(self):
        rng = random.Random(45)
        found = set()
        for _ in range(400):
            texts = self.three(rng)
            with self.subTest(texts=texts):
                word, told = merge(*texts)
                other, turned = merge(texts[0], texts[2], texts[1])
                clashes = plain_edits.clashes(*texts)
                found.add(word)
                self.assertEqual((word, other), ("clash", "clash") if clashes else ("merged", "merged"))
                if clashes:
                    self.assertEqual(told, clashes)
                    self.assertEqual([clash[:2] for clash in turned], [clash[:2] for clash in clashes])
                else:
                    self.merged(texts, told)
                    self.assertTrue(alike((told,), (turned,)))
        self.assertEqual(found, {"merged", "clash"})

    def merged(self, texts, told):
        self.assertTrue(is_text(told))
        self.assertEqual(told, plain_edits.merged(*texts, told))
        self.assertLessEqual(set(plainly.names((told,))), set(plainly.names(texts)))
        for name in plainly.names(texts):
            for reader in plainly.readers(texts):
                wanted = plain_edits.merged_meaning(*plain_edits.meanings_of_three(texts, reader, name))
                self.assertEqual(meaning((told,), reader, name), wanted)


if __name__ == "__main__":
    unittest.main()
