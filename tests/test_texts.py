"""[11] and [15] to [22]: texts, their lines, statements and faults."""

import itertools
import re
import string
import unittest

from layeredwords.errors import BadLine, BadValue, TooMany
from layeredwords.texts import is_item, is_name, is_reader, is_text, joined, lines_of, statements

# The grammar of [15] and [16] a second time, as patterns.
PLAIN = r"[a-zA-Z_][a-zA-Z0-9_]{0,39}"
KEY = r"(?!(?:unset|lock|when|end)(?![a-zA-Z0-9_]))" + PLAIN
WORD = r"[a-zA-Z0-9_/-]{1,40}"
ITEM = r"[a-zA-Z0-9_/.:@-]{0,39}[a-zA-Z0-9_/:@-]"
VALUE = r"(?!not(?![a-zA-Z0-9_/-]))" + WORD
BODY = (
    rf"|\[(?:{PLAIN}(?:\.{PLAIN}){{0,3}})?\]"
    rf"|{KEY} (?:=|\?=)(?: {ITEM}(?:, {ITEM})*)?"
    rf"|{KEY} (?:\+=|\^=|-=) {ITEM}(?:, {ITEM})*"
    rf"|(?:unset|lock) {KEY}"
    rf"|when {PLAIN} is (?:not )?(?P<values>{VALUE}(?:, {VALUE})*)"
    r"|end"
)
LINE = re.compile(rf" *(?:{BODY})(?: *#[^\n]*)?")


def has_form(line):
    """Whether the patterns take a line."""
    match = LINE.fullmatch(line)
    if match is None:
        return False
    values = (match["values"] or "").split(", ")
    return len(values) == len(set(values))


def alone(line):
    """A text in which a line stands so that no bracket is missing."""
    body = line.partition("#")[0].strip(" ")
    if body == "end":
        return f"when f is v\n{line}\n"
    if body.startswith("when "):
        return f"{line}\nend\n"
    return f"{line}\n"


class Lines(unittest.TestCase):
    """Lines on their own: what has a form, and what has none."""

    def takes(self, *lines):
        for line in lines:
            with self.subTest(line=line):
                self.assertTrue(has_form(line), "the test's own pattern")
                self.assertIs(is_text(alone(line)), True)

    def refuses(self, *lines):
        for line in lines:
            with self.subTest(line=line):
                self.assertFalse(has_form(line), "the test's own pattern")
                self.assertIs(is_text(alone(line)), False)

    def test_nothing(self):
        self.takes("", " ", "     ", "#", "# c", "  # c", "#c", "##", "# a # b", "#\tc", "  #\t", "# ")
        self.refuses("\t", " \t", "\t# c", " \t #", "x", "c # d", "-", "/ c", "; c", "// c")

    def test_sections(self):
        self.takes("[]", "[a]", "[a.b]", "[a.b.c]", "[a.b.c.d]", "  [a]", "[a] # c", "[a]#c", "[]#", "[] #")
        self.takes("[unset]", "[lock.when]", "[end]", "[not]", "[_1]", "[" + "a" * 40 + "]")
        self.refuses("[a.b.c.d.e]", "[", "]", "[a", "a]", "[a] ", "[] ", "[ ]", "[ a]", "[a ]", "[a]b", "[a]]")
        self.refuses("[[a]]", "[.]", "[a.]", "[.a]", "[a..b]", "[a-b]", "[a/b]", "[1]", "[a.1]", "[a, b]")
        self.refuses("[" + "a" * 41 + "]", "[a]\t", "\t[a]", "[a]\t# c", "[a] x", "[a:b]", "[a][b]")

    def test_changes(self):
        for sign in ("=", "+=", "^=", "-=", "?="):
            self.takes(f"x {sign} a", f"x {sign} a, b", f"x {sign} a, a", f"  x {sign} a", f"x {sign} .a:@/b")
            self.takes(f"x {sign} a#c", f"x {sign} a # c", f"x {sign} a, b   # c, d", f"x {sign} a#\tc")
            self.takes(f"x {sign} " + "a" * 40, f"x {sign} unset, lock, when, end, not, is")
            self.refuses(f"x {sign} a ", f"x {sign} ", f"x {sign}  a", f"x  {sign} a", f"x{sign} a", f"x {sign}a")
            self.refuses(f"x {sign} a,b", f"x {sign} a,  b", f"x {sign} a, ", f"x {sign} a,", f"x {sign} , a")
            self.refuses(f"x {sign} a b", f"x {sign} a ,b", f"x {sign} a.", f"x {sign} a., b", f"x {sign} a\t")
            self.refuses(f"x {sign}\ta", f"x\t{sign} a", f"\tx {sign} a", f"x {sign} a\t# c", f"x {sign} a=b")
            self.refuses(f"x {sign} " + "a" * 41, f"{sign} a", f" {sign} a", f"x {sign} a, , b", f"x {sign} [a]")

    def test_no_items(self):
        self.takes("x =", "x ?=", "x =#c", "x = #c", "x =   # c", "x ?=#", "  x =")
        self.refuses("x = ", "x ?= ", "x +=", "x ^=", "x -=", "x += ", "x +=#c", "x ^= #c", "x -=  # c", "x", "=")

    def test_signs(self):
        self.refuses("x == a", "x =+ a", "x := a", "x *= a", "x += = a", "x ! a", "x a", "x - a", "x set a", "x ?? a")

    def test_keys(self):
        for key in ("a", "_", "_9", "not", "is", "set", "End", "unsets", "lock_", "a" * 40, "default"):
            self.takes(f"{key} = a", f"unset {key}", f"lock {key}")
        for key in ("unset", "lock", "when", "end", "9", "9a", "a-b", "a/b", "a.b", "", "a" * 41, "a:b", "a@"):
            self.refuses(f"{key} = a", f"unset {key}", f"lock {key}")

    def test_unset_and_lock(self):
        for word in ("unset", "lock"):
            self.takes(f"  {word} x", f"{word} x#c", f"{word} x  # c", f"{word} x #")
            self.refuses(word, f"{word} ", f"{word} x ", f"{word}  x", f"{word} x y", f"{word} x, y", f"{word}\tx")
            self.refuses(f"{word}x", f"{word} =", f"{word} x = a", f"{word} #", f"{word}#x", f"{word} x\t")

    def test_whens(self):
        self.takes("when os is a", "when os is not a", "when os is a, b", "when os is not a, b-c, 9/d")
        self.takes("  when os is a", "when os is a#c", "when os is not a  # c", "when os is a, b #")
        self.takes("when is is is", "when not is not is", "when when is when", "when unset is end", "when end is a")
        self.takes("when " + "a" * 40 + " is " + "b" * 40, "when os is Not", "when os is not nots, is", "when os is nota")
        self.refuses("when", "when ", "when os", "when os ", "when os is", "when os is ", "when os is not", "when is a")
        self.refuses("when os is not ", "when os not a", "when os is not not", "when os is a, not", "when os is not, a")
        self.refuses("when os is not a, not", "when os is not not a", "when os is a, a", "when os is not a, b, a")
        self.refuses("when  os is a", "when os  is a", "when os is  a", "when os is not  a", "when os is a,b")
        self.refuses("when os is a ", "when os is a, ", "when os is a,", "when os is a,  b", "when os is a b")
        self.refuses("when 9 is a", "when o-s is a", "when o.s is a", "when os is a.b", "when os is a:b", "when os is @")
        self.refuses("when " + "a" * 41 + " is b", "when os is " + "b" * 41, "when os = a", "when os are a")
        self.refuses("\twhen os is a", "when\tos is a", "when os is a\t", "when os is a\t# c", "when os isa")

    def test_end(self):
        self.takes("end", "  end", "end#c", "end # when", "end  #")
        self.refuses("end ", "end x", "endx", "\tend", "end\t", "end\t#", "end = a", "End", "end when", "end end")

    def test_all_lines_of_some_pieces(self):
        pieces = ("x", " ", "=", "+", "a", ",", "#", "\t", "[", "]", ".", "1")
        for many in range(6):
            for chosen in itertools.product(pieces, repeat=many):
                line = "".join(chosen)
                if is_text(line + "\n") is not has_form(line):
                    self.fail(repr(line))

    def test_all_lines_of_some_words(self):
        pieces = ("when", "is", "not", "os", "a", " ", ", ", "a, b", " is ", " not ", "unset ", "end", "lock", "#", " =")
        for many in range(5):
            for chosen in itertools.product(pieces, repeat=many):
                line = "".join(chosen)
                if is_text(alone(line)) is not has_form(line):
                    self.fail(repr(line))


class Texts(unittest.TestCase):
    def test_line_feeds(self):
        for text in ("", "\n", "\n\n", "x = a\n", "\n\nx = a\n\n", " \n#\n"):
            self.assertIs(is_text(text), True, repr(text))
        for text in ("x", " ", "#", "x = a", "\n ", "x = a\ny = b", "end", "[a]"):
            self.assertIs(is_text(text), False, repr(text))

    def test_two_thousand_lines(self):
        self.assertIs(is_text("\n" * 2000), True)
        self.assertIs(is_text("\n" * 2001), False)
        self.assertIs(is_text("x = a\n" * 2000), True)
        self.assertIs(is_text("x = a\n" * 2001), False)
        self.assertIs(is_text("\n" * 2000 + "#"), False)

    def test_brackets(self):
        when, end = "when os is a\n", "end\n"
        for text in (when + end, when + end + when + end, when + when + end + end, when + when + end + when + end + end):
            self.assertIs(is_text(text), True, repr(text))
        for text in (when, end, end + when, when + end + end, when + when + end, when + end + when):
            self.assertIs(is_text(text), False, repr(text))

    def test_twenty_whens_in_each_other(self):
        when, end = "when os is a\n", "end\n"
        self.assertIs(is_text(when * 20 + end * 20), True)
        self.assertIs(is_text(when * 21 + end * 21), False)
        self.assertIs(is_text((when * 20 + end * 20) * 2), True)
        self.assertIs(is_text(when * 19 + (when + end) * 9 + end * 19), True)
        self.assertIs(is_text(when * 20 + end + when + end * 20), True)
        self.assertIs(is_text(when * 20 + end + when + when + end * 21), False)


class LinesOfTexts(unittest.TestCase):
    def test_lines_of(self):
        self.assertEqual(lines_of(""), ())
        self.assertEqual(lines_of("\n"), ("",))
        self.assertEqual(lines_of("x = a\n\n  # c\n"), ("x = a", "", "  # c"))
        self.assertEqual(lines_of("\n\na\n\n"), ("", "", "a", ""))
        self.assertEqual(lines_of("no form at all\nend\n\t\n"), ("no form at all", "end", "\t"))
        self.assertEqual(len(lines_of("a\n" * 5000)), 5000)
        self.assertIs(type(lines_of("a\n")), tuple)

    def test_lines_of_wrong(self):
        for value in (None, True, 0, 10 ** 30, ("a\n",), ["a\n"], (), "a", "a\nb", "\n ", " "):
            with self.subTest(value=value), self.assertRaises(BadValue) as caught:
                lines_of(value)
            self.assertEqual(caught.exception.at, 1)

    def test_joined(self):
        self.assertEqual(joined(()), "")
        self.assertEqual(joined([]), "")
        self.assertEqual(joined(("",)), "\n")
        self.assertEqual(joined(["x = a", "", "# c"]), "x = a\n\n# c\n")
        self.assertEqual(joined(("no form", "\t")), "no form\n\t\n")

    def test_joined_wrong(self):
        wrong = (None, True, 3, "", "ab", "a\n", ("a\n",), ("\n",), ("a", "b\nc"), ("a", 1), (None,), (("a",),), [["a"]])
        for value in wrong:
            with self.subTest(value=value), self.assertRaises(BadValue) as caught:
                joined(value)
            self.assertEqual(caught.exception.at, 1)

    def test_joined_is_the_inverse(self):
        pieces = ("", " ", "x = a", "# c", "\t#", "when os is a", "end", "no form")
        for many in range(4):
            for lines in itertools.product(pieces, repeat=many):
                text = "".join(line + "\n" for line in lines)
                self.assertEqual(joined(lines_of(text)), text)
                self.assertEqual(lines_of(joined(lines)), lines)

    def test_names_of_arguments(self):
        self.assertEqual(lines_of(text="a\n"), ("a",))
        self.assertEqual(joined(lines=("a",)), "a\n")
        self.assertEqual(statements(text="x = a\n"), ((0, "x", "set", ("a",), ()),))
        for function in (is_item, is_name, is_reader, is_text):
            self.assertIs(function(value=None), False)


class Statements(unittest.TestCase):
    def test_each_word(self):
        text = "x = a, b\nx += a\nx ^= b, b\nx -= a\nx ?= c\nunset x\nlock x\nx =\nx ?=\n"
        self.assertEqual(statements(text), (
            (0, "x", "set", ("a", "b"), ()),
            (1, "x", "append", ("a",), ()),
            (2, "x", "prepend", ("b", "b"), ()),
            (3, "x", "drop", ("a",), ()),
            (4, "x", "default", ("c",), ()),
            (5, "x", "unset", (), ()),
            (6, "x", "lock", (), ()),
            (7, "x", "set", (), ()),
            (8, "x", "default", (), ()),
        ))

    def test_lines_that_are_no_statements(self):
        self.assertEqual(statements(""), ())
        self.assertEqual(statements("\n  \n# x = a\n[s]\n[]\nwhen os is a\nend\n"), ())

    def test_comments_and_blanks(self):
        text = "\n   x = a#, b\n  # x = c\ny =   # c\nunset z#z\n  lock z   #\n"
        self.assertEqual(statements(text), (
            (1, "x", "set", ("a",), ()),
            (3, "y", "set", (), ()),
            (4, "z", "unset", (), ()),
            (5, "z", "lock", (), ()),
        ))

    def test_only_blanks_are_taken_off(self):
        for sign in string.ascii_letters + "_":
            text = f"  {sign}x = a{sign}  # c\n{sign}y = b{sign}#c\n"
            self.assertEqual(statements(text), (
                (0, sign + "x", "set", ("a" + sign,), ()),
                (1, sign + "y", "set", ("b" + sign,), ()),
            ))

    def test_sections(self):
        text = "x = a\n[s]\nx = b\n[a.b.c.d]  # c\nx = c\n[]#\nx = d\n[s]\nlock x\n"
        self.assertEqual([row[:3] for row in statements(text)], [
            (0, "x", "set"), (2, "s.x", "set"), (4, "a.b.c.d.x", "set"), (6, "x", "set"), (8, "s.x", "lock"),
        ])

    def test_sections_across_whens_and_ends(self):
        text = "[a]\nwhen os is v\nx = 1\n[s]\nx = 2\nend\nx = 3\nwhen os is not v\n[]\nend\nx = 4\n"
        holds, fails = (("os", ("v",), True),), (("os", ("v",), False),)
        self.assertEqual(statements(text), (
            (2, "a.x", "set", ("1",), holds),
            (4, "s.x", "set", ("2",), holds),
            (6, "s.x", "set", ("3",), ()),
            (10, "x", "set", ("4",), ()),
        ))
        self.assertEqual(statements("when os is not v\nlock x\nend\n"), ((1, "x", "lock", (), fails),))

    def test_conditions(self):
        text = "when b is z, y # c\nwhen a is not z, x\nx = 1\nend\nx = 2\nwhen b is q\nx = 3\nend\nend\nx = 4\n"
        outer, inner, other = ("b", ("z", "y"), True), ("a", ("z", "x"), False), ("b", ("q",), True)
        self.assertEqual([row[0::4] for row in statements(text)], [
            (2, (outer, inner)), (4, (outer,)), (6, (outer, other)), (9, ()),
        ])

    def test_odd_facts_and_values(self):
        text = "when not is not is\nwhen is is is, Not\nx = 1\nend\nend\n"
        self.assertEqual(statements(text)[0][4], (("not", ("is",), False), ("is", ("is", "Not"), True)))

    def test_twenty_conditions(self):
        text = "".join(f"when f is v{at}\n" for at in range(20)) + "x = 1\n" + "end\n" * 20
        self.assertEqual(statements(text)[0], (
            20, "x", "set", ("1",), tuple(("f", (f"v{at}",), True) for at in range(20)),
        ))

    def test_plain_tuples(self):
        def plain(value):
            if type(value) is tuple:
                return all(plain(part) for part in value)
            return type(value) in (int, str, bool)

        found = statements("when os is a, b\nx = a, b\nlock x\nend\nx += c\n")
        self.assertTrue(plain(found))
        self.assertIs(found[0][4][0][2], True)

    def test_two_thousand_lines(self):
        found = statements("x += a\n" * 2000)
        self.assertEqual((len(found), found[-1]), (2000, (1999, "x", "append", ("a",), ())))


class Faults(unittest.TestCase):
    def fault(self, text, at):
        self.assertIs(is_text(text), False)
        with self.subTest(text=text), self.assertRaises(BadLine) as caught:
            statements(text)
        self.assertEqual((caught.exception.layer, caught.exception.at), (0, at), repr(text))

    def test_no_string(self):
        for value in (None, True, False, 0, 7, -10 ** 30, (), [], ("x = a\n",), ["x = a\n"], ((("",),),)):
            with self.subTest(value=value), self.assertRaises(BadValue) as caught:
                statements(value)
            self.assertEqual(caught.exception.at, 1)

    def test_too_many_lines(self):
        for text in ("\n" * 2001, "bad\n" * 2001, "\n" * 2000 + "bad", "\n" * 2000 + " ", "\n" * 60000):
            with self.assertRaises(TooMany) as caught:
                statements(text)
            self.assertEqual(caught.exception.word, "lines")
        self.assertEqual(statements("\n" * 2000), ())
        self.fault("\n" * 1999 + "x = a", 1999)
        self.fault("\n" * 1999 + "bad\n", 1999)

    def test_a_line_without_a_form(self):
        self.fault("bad\n", 0)
        self.fault("x = a\n\ny = b \nz\n", 2)
        self.fault("# c\n[a.b.c.d.e]\nx +=\n", 1)

    def test_a_last_line_without_a_line_feed(self):
        self.fault("x", 0)
        self.fault("x = a", 0)
        self.fault(" ", 0)
        self.fault("# c", 0)
        self.fault("x = a\n\n[s]", 2)
        self.fault("bad\nx = a", 0)

    def test_an_end_without_a_when(self):
        self.fault("end\n", 0)
        self.fault("x = a\nend\nwhen os is a\n", 1)
        self.fault("when os is a\nend\nend\nend\n", 2)

    def test_a_when_without_an_end(self):
        self.fault("when os is a\n", 0)
        self.fault("x = a\nwhen os is a\nwhen os is b\nend\nx = b\n", 1)
        self.fault("when os is a\nend\n\nwhen os is a\nwhen os is a\n", 3)
        self.fault("when os is a\nwhen os is a\nend\nend\nwhen os is a\nend\nwhen os is b\n", 6)

    def test_the_first_of_several(self):
        self.fault("when os is a\nbad\n", 0)
        self.fault("bad\nwhen os is a\n", 0)
        self.fault("bad\nend\n", 0)
        self.fault("end\nbad\n", 0)
        self.fault("when os is a\nend\nbad\nend\n", 2)
        self.fault("when os is a\nend\nbad\nwhen os is a\nx = a", 2)
        self.fault("x = a\nend\nwhen os is b\nx", 1)

    def test_lines_that_have_no_form_count_as_none(self):
        self.fault("when os is a\nend x\nx = a\n", 0)
        self.fault("\nwhen os is a \nend\n", 1)
        self.fault("x = a\nwhen os is a\nend \nend\n", 2)
        self.fault("when os is a\nwhen os is\nend\nend\n", 1)

    def test_one_when_too_many(self):
        when, end = "when os is a\n", "end\n"
        self.fault(when * 21 + end * 21, 20)
        self.fault(when * 25 + end * 25, 20)
        self.fault("\n" + when * 21 + "x = a\n" + end * 21 + "bad\n", 21)

    def test_a_when_too_many_counts_as_a_when(self):
        when, end = "when os is a\n", "end\n"
        self.fault(when * 21 + end * 20, 0)
        self.fault(when * 21 + end * 22, 20)
        self.fault(when + end + when * 21 + end * 20, 2)

    def test_a_last_when_or_end_without_a_line_feed(self):
        when, end = "when os is a\n", "end\n"
        self.fault(when + "x = a\nend", 2)
        self.fault(when + when + end + "end", 3)
        self.fault("end", 0)
        self.fault(when + "when os is b", 0)
        self.fault(when + end + "when os is b", 2)
        self.fault(when + "end # c", 1)
        self.fault(when + "end ", 0)
        self.fault(when * 20 + end * 19 + "end", 39)
        self.fault(when + "x = a\nx = b", 0)


if __name__ == "__main__":
    unittest.main()
