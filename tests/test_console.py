"""[49] and [50] the console; and of part 2, [11] that a replayed log does the same."""

import random
import unittest

import plainly
from layeredwords.comparing import apart
from layeredwords.console import Console
from layeredwords.errors import BadSyntax, BadValue, LayerError
from layeredwords.merging import merge
from layeredwords.normal import normal_text
from layeredwords.seeing import see
from layeredwords.texts import lines_of

FORMLESS = (
    "", " ", "  ", "line", "line ", "line a", "line  ", "line  x = a", " line a x = a", "line A x", "line a1 x", "line a.b x",
    "line a,b x", "line abcdefghijklm x", "line - x", "Line a x", "lines a x", "line\ta x", "line a\tx",
    "clear", "clear ", "clear  a", "clear a ", " clear a", "clear a b", "clear a,b", "clear A", "clear a1", "clear abcdefghijklm",
    "clear -", "Clear a", "show", "show ", "show  a", "show a ", "show a b", "show a,b", "show B", "show a_b", "show nmlkjihgfedcb",
    "see", "see ", "see -", "see - x", "see - x ", "see x a", "see -  x a", "see - x  a", "see  - x a", "see - x a ", "see - x a b",
    "see - x a,", "see - x ,a", "see - x a,,b", "see - x a, b", "see - x A", "see - x a,B", "see - x a1", "see - x abcdefghijklm",
    "see - x a,abcdefghijklm", "see -- x a", "see os x a", "see os: x a", "see :a x a", "see os:a:b x a", "see os:a, x a",
    "see ,os:a x a", "see os:a,,pc:a x a", "see os:a,- x a", "see -,os:a x a", "see os:a,at:b x a", "see os:a,os:b x a",
    "see os:a,os:a x a", "see b:a,B:a x a", "see 9:a x a", "see o-s:a x a", "see os:a.b x a", "see os:a@ x a", "see  x a",
    "see - x. a", "see - .x a", "see - lock a", "see - s.end a", "see - 9 a", "see - x-y a", "see - a.b.c.d.e.x a", "see - [s] a",
    "see - x,y a", f"see - {'x' * 41} a", f"see os:{'a' * 41} x a", "see - x a\t", "See - x a",
    "apart", "apart ", "apart a", "apart a ", "apart  a b", "apart a  b", "apart a b ", "apart a b c", "apart a, b", "apart a ,b",
    "apart a B", "apart a,1 b", "apart - a", "apart a abcdefghijklm", "Apart a b",
    "normal", "normal ", "normal  a", "normal a ", "normal a b", "normal a,", "normal ,a", "normal a,,b", "normal A", "normal a,b1",
    "normal -", "normals a",
    "merge", "merge ", "merge a", "merge a b", "merge a b c", "merge a b c ", "merge a b c d ", "merge a b c d e", "merge  a b c d",
    "merge a  b c d", "merge a b c,d e", "merge a,b c d e", "merge a b c d,e", "merge a b c D", "merge A b c d", "merge a b c 1",
    "merge abcdefghijklm b c d", "Merge a b c d",
    "log", "wish a", "put a x set a", "why - x a", "x = a", "#", "ok", "a", "apart a,b", "replay a",
)
FORMS = (
    "line a ", "line a x = a", "line a  ", "line a    ", "line a  x = a # c", "line a line a x", "line a bad", "line abcdefghijkl # c",
    "line line [s]", "line show when os is a", "clear a", "clear abcdefghijkl", "show a", "show show", "see - x a", "see - x.y a,a,b",
    "see os:a x a", "see os:- x a", "see at:9/b,os:-a_ s.t.u.v.x a,b,abcdefghijkl", "see B:a,b:a x a", "see is:not x a", "apart a a",
    "apart a,b b,a,a", "apart abcdefghijkl b", "normal a", "normal a,b,a", "merge a b c d", "merge a a a a", "merge abcdefghijkl b c d",
)


def answers(console, *commands):
    return [console.run(command) for command in commands]


def console_with(**texts):
    """A console that keeps these texts."""
    console = Console()
    for name, text in texts.items():
        for line in lines_of(text):
            console.run(f"line {name} {line}")
        if text == "":
            answers(console, f"line {name} ", f"clear {name}")
    return console


def state(console, names=("a", "b", "c", "d", "m")):
    """What a console keeps, asked of a second one: asking is told in the log."""
    return [Console.replayed(console.log()).run(f"show {name}") for name in names]


class Forms(unittest.TestCase):
    def test_commands_without_a_form(self):
        for console in (Console(), console_with(a="x = a\n", b="", c="x = c\n", d="")):
            log = console.log()
            for command in FORMLESS:
                with self.subTest(command=command), self.assertRaises(BadSyntax) as caught:
                    console.run(command)
                self.assertEqual(caught.exception.__dict__, {"at": 0})
                self.assertEqual(console.log(), log)

    def test_commands_with_a_form(self):
        for command in FORMS:
            for console in (Console(), console_with(a="x = a\n", b="", c="x = c\n", d="")):
                log = console.log()
                self.assertIs(type(console.run(command)), str)
                self.assertEqual(console.log(), log + command + "\n")

    def test_by_name(self):
        self.assertEqual(Console().run(command="line a x = a"), "ok")
        self.assertEqual(Console.replayed(log="line a x\n").log(), "line a x\n")


class Texts(unittest.TestCase):
    def test_lines(self):
        console = Console()
        self.assertEqual(answers(console, "line a x = a", "show a", "line a ", "line a    ", "line a   x += b # c"), [
            "ok", "x = a\n", "ok", "ok", "ok"])
        self.assertEqual(console.run("show a"), "x = a\n\n   \n  x += b # c\n")
        self.assertEqual(console.run("see - x a"), "[a, b]")
        self.assertEqual(answers(console, "line b \tbad line", "line b when os is a", "show b"), [
            "ok", "ok", "\tbad line\nwhen os is a\n"])

    def test_an_empty_line_makes_a_name_known(self):
        console = Console()
        self.assertEqual(answers(console, "show a", "line a ", "show a", "clear a", "show a"), [
            "error Unknown", "ok", "\n", "ok", ""])

    def test_clear(self):
        console = console_with(a="x = a\n", b="x = b\n")
        self.assertEqual(answers(console, "clear a", "show a", "show b", "see - x a", "line a y = c", "show a", "clear c", "show c"), [
            "ok", "", "x = b\n", "none", "ok", "y = c\n", "error Unknown", "error Unknown"])

    def test_names(self):
        console = Console()
        answers(console, "line abcdefghijkl x = a", "line z x = b", "line clear x = c")
        self.assertEqual(answers(console, "show abcdefghijkl", "show z", "show clear"), ["x = a\n", "x = b\n", "x = c\n"])

    def test_a_text_may_become_complete(self):
        console = Console()
        self.assertEqual(
            answers(console, "line a when os is a", "see os:a x a", "line a x = b", "line a end", "see os:a x a", "see - x a"),
            ["ok", "error BadLine", "ok", "ok", "[b]", "none"])

    def test_two_consoles_keep_their_own(self):
        one, other = Console(), Console()
        one.run("line a x = a")
        self.assertEqual(other.run("show a"), "error Unknown")
        self.assertEqual(other.log(), "show a\n")


class Answers(unittest.TestCase):
    def test_see(self):
        console = console_with(a="x = a\ny =\n[s]\nz = c:d.e\n", b="x += b\nwhen os is a\nx -= a\nend\nwhen at is 9\nx += q\nend\n")
        for command, told in (
            ("see - x a", "[a]"), ("see - x a,b", "[a, b]"), ("see - x b,a", "[a]"), ("see - x b", "[b]"), ("see - x b,b", "[b, b]"),
            ("see os:a x a,b", "[b]"), ("see os:b x a,b", "[a, b]"), ("see at:9 x a,b", "[a, b, q]"), ("see at:9,os:a x a,b", "[b, q]"),
            ("see - y a", "[]"), ("see - z a", "none"), ("see - s.z a,b,a", "[c:d.e]"), ("see - x a,b,b,b", "[a, b, b, b]"),
        ):
            self.assertEqual(console.run(command), told, command)

    def test_apart(self):
        console = console_with(a="x = a\ny = b\n", b="x = a\n", c="y = c\n", d="[s]\nx = a\n", e="")
        for command, told in (
            ("apart a a", "alike"), ("apart a b", "y"), ("apart a b,c", "y"), ("apart b c", "x"), ("apart d e", "s.x"), ("apart b,d b", "s.x"),
            ("apart a b,a", "alike"), ("apart e,e,b b", "alike"), ("apart b,c c,b", "alike"), ("apart e e", "alike"),
        ):
            self.assertEqual(console.run(command), told, command)

    def test_normal(self):
        console = console_with(a="# c\nx = a\n", b="x += b\n[s]\nwhen os is a\nlock x\nend\n", c="")
        for command, told in (
            ("normal a", "x = a\n"), ("normal a,b", "x = a, b\n[s]\nwhen os is a\nlock x\nend\n"), ("normal b,a", "x = a\n[s]\nwhen os is a\nlock x\nend\n"),
            ("normal c", ""), ("normal c,a,c", "x = a\n"),
        ):
            self.assertEqual(console.run(command), told, command)

    def test_merge(self):
        for name, kept in (("m", None), ("a", "x = a\n"), ("b", "# ours\nx = a\n"), ("c", "x = c\n")):
            console = console_with(a="x = a\n", b="# ours\nx = a\n", c="x = c\n")
            self.assertEqual(answers(console, f"merge {name} a b c", f"show {name}"), ["merged", "# ours\nx = c\n"])
            for other, text in (("a", "x = a\n"), ("b", "# ours\nx = a\n"), ("c", "x = c\n")):
                if other != name:
                    self.assertEqual(console.run(f"show {other}"), text)
        console = console_with(a="x = a\n")
        self.assertEqual(answers(console, "merge b a a a", "show b", "line b y = c", "show b", "show a"), [
            "merged", "x = a\n", "ok", "x = a\ny = c\n", "x = a\n"])
        console = console_with(a="")
        self.assertEqual(answers(console, "merge m a a a", "show m", "line m x", "show m"), ["merged", "", "ok", "x\n"])

    def test_clash(self):
        console = console_with(a="x = a\ny = a\n", b="x = b\ny = b\n", c="x = c\ny = c\nwhen os is a, b\nend\n", d="x = q\ny = a\n")
        before = state(console)
        self.assertEqual(answers(console, "merge m a b c", "merge a a b d", "merge d a b b", "show d"), [
            "clash 6", "clash 1", "merged", "x = b\ny = b\n"])
        self.assertEqual(state(console)[:3], before[:3])
        self.assertEqual(console.run("show m"), "error Unknown")


class Faults(unittest.TestCase):
    def test_names_that_are_not_known(self):
        commands = (
            "clear q", "show q", "see - x q", "see - x a,q", "see - x q,a", "apart q a", "apart a q", "apart a,q a", "apart a a,q",
            "normal q", "normal a,q", "merge m q a a", "merge m a q a", "merge m a a q", "merge q q a a", "merge q a a q", "merge a a a m",
        )
        for text in ("x = a\n", "bad\n"):
            console = console_with(a=text)
            before = state(console, ("a", "m", "q"))
            for command in commands:
                self.assertEqual(console.run(command), "error Unknown", command)
            self.assertEqual(state(console, ("a", "m", "q")), before)

    def test_errors_of_functions(self):
        many = "".join(f"when {fact} is v\nend\n" for fact in "abcdefghij")
        names = "".join(f"x{at} = a\n" for at in range(513))
        console = console_with(
            a="x = a\n", b="bad\n", c=many, d="\n" * 2000, e="\n" * 2001, f=names, g=names.replace("= a", "= b"),
            h=names.replace("= a", "= c"), i="when os is a\n")
        layers = ",".join("a" * 41)
        before = state(console, "abcdefghim")
        for command, told in (
            ("see - x b", "BadLine"), ("see - x a,b", "BadLine"), ("see - x i", "BadLine"), ("apart a b", "BadLine"), ("apart b a", "BadLine"),
            ("normal i", "BadLine"), ("merge m a a b", "BadLine"), ("merge a b a a", "BadLine"), ("merge m a i a", "BadLine"),
            ("see - x e", "TooMany"), ("see - x d,a", "TooMany"), ("apart a e", "TooMany"), ("normal e", "TooMany"), ("normal c", "TooMany"),
            ("apart a c", "TooMany"), ("merge m a c a", "TooMany"), ("merge m a e a", "TooMany"), ("merge m f g h", "TooMany"),
            ("merge d d d a", "TooMany"), (f"see - x {layers}", "TooMany"), (f"normal {layers}", "TooMany"), (f"apart a {layers}", "TooMany"),
            (f"see - x b,{layers}", "TooMany"),
        ):
            self.assertEqual(console.run(command), f"error {told}", command)
        self.assertEqual(state(console, "abcdefghim"), before)
        self.assertEqual(console.run("see - x c"), "none")
        self.assertEqual(console.run(f"see - x {layers[2:]}"), "[a]")

    def test_a_form_comes_ahead_of_names(self):
        for command in ("see - x. q", "see os:a,os:b x q", "merge m q q q q", "show q "):
            with self.assertRaises(BadSyntax):
                Console().run(command)


class Logs(unittest.TestCase):
    def test_log(self):
        console = Console()
        self.assertEqual(console.log(), "")
        answers(console, "line a x = a", "show q", "line a  ", "see - x a")
        with self.assertRaises(BadSyntax):
            console.run("show a ")
        answers(console, "line b bad", "normal b", "line b ", "merge a a a b")
        self.assertEqual(console.log(), (
            "line a x = a\nshow q\nline a  \nsee - x a\nline b bad\nnormal b\nline b \nmerge a a a b\n"))
        self.assertEqual(console.log(), console.log())

    def test_replayed(self):
        console = Console.replayed("")
        self.assertIs(type(console), Console)
        self.assertEqual(console.log(), "")
        log = "line a x = a\nshow q\nline b \nmerge m a b b\nline m # c\nline b bad\nnormal b\n"
        console = Console.replayed(log)
        self.assertIs(type(console), Console)
        self.assertEqual(console.log(), log)
        self.assertEqual(answers(console, "show a", "show b", "show m", "show q"), ["x = a\n", "\nbad\n", "\n# c\n", "error Unknown"])

    def test_it_may_be_called_off_an_object(self):
        one = Console()
        other = one.replayed("line a x\n")
        self.assertEqual((one.log(), other.log()), ("", "line a x\n"))

    def test_no_strings(self):
        for log in (None, True, False, 0, 10 ** 30, (), [], ("line a x\n",), ["line a x\n"], [[]]):
            with self.assertRaises(BadValue) as caught:
                Console.replayed(log)
            self.assertEqual(caught.exception.__dict__, {"at": 1})

    def test_wrong_logs(self):
        for log, at in (
            ("line a x", 0), ("x", 0), (" ", 0), ("line a x\nline a y", 1), ("\n", 0), ("\n\n", 0), ("line a x\n\nline a y\n", 1),
            ("line a x\nline a\nline a y\n", 1), ("line a x\nline A x\nshow\nline a y", 1), ("show q\nshow q\nshow", 2),
            ("show q\nshow q\nshow q", 2), ("line a x\n" * 500 + "bad\n" + "line a x\n" * 500, 500), ("line a x\n" * 500 + "line a x", 500),
            ("see - x a\nsee os:a,os:b x a\n", 1), ("line a x\n ", 1), ("line a x\r\nshow a\r\n", 1), ("ok\nline a x", 0),
        ):
            with self.subTest(log=log[:50]), self.assertRaises(BadSyntax) as caught:
                Console.replayed(log)
            self.assertEqual(caught.exception.__dict__, {"at": at})

    def test_a_line_may_have_any_signs_but_line_feeds(self):
        log = "line a x = a # \r\x0b\x0c\x85\u2028 c\nline a \r\n"
        self.assertEqual(Console.replayed(log).run("show a"), "x = a # \r\x0b\x0c\x85\u2028 c\n\r\n")
        self.assertEqual(Console.replayed(log).log(), log)

    def test_a_long_log(self):
        log = "".join(f"line a x += i{at} # {'c' * 50}\n" for at in range(20000))
        self.assertEqual(Console.replayed(log).log(), log)


class AnyCommands(unittest.TestCase):
    def command(self, rng):
        names = lambda: ",".join(rng.choice("abcq") for _ in range(rng.choice((1, 1, 2, 3))))
        readers = ("-", "os:a", "at:b,os:b", "os:b,at:b")
        return rng.choice((
            f"line {rng.choice('abc')} {plainly.random_line(rng)}", f"line {rng.choice('abc')} {plainly.random_line(rng)}",
            f"line {rng.choice('abc')} {rng.choice(plainly.SECTIONS + ('', '#', 'bad', 'when os is a', 'end'))}",
            f"clear {rng.choice('abcq')}", f"show {rng.choice('abcq')}", f"see {rng.choice(readers)} {rng.choice(('x', 's.x'))} {names()}",
            f"apart {names()} {names()}", f"normal {names()}", f"merge {' '.join(rng.choice('abc') for _ in range(4))}", f"show {names()} ",
        ))

    def told(self, console, command):
        """The answer, or the error, of a command."""
        try:
            return console.run(command)
        except LayerError as error:
            return type(error).__name__, error.__dict__

    def plain_answer(self, texts, command):
        """The answer to a command with a form, of the functions that it stands for; texts is changed."""
        word, *parts = command.split(" ")
        if word == "line":
            texts[parts[0]] = texts.get(parts[0], "") + command.split(" ", 2)[2] + "\n"
            return "ok"
        names = {"see": parts[2:], "merge": parts[1:]}.get(word, parts)
        stacks = [[texts.get(name) for name in part.split(",")] for part in names]
        if any(None in stack for stack in stacks):
            return "error Unknown"
        if word in ("clear", "show"):
            told = texts[parts[0]] if word == "show" else "ok"
            texts[parts[0]] = texts[parts[0]] if word == "show" else ""
            return told
        try:
            if word == "see":
                reader = () if parts[0] == "-" else [pair.split(":") for pair in parts[0].split(",")]
                value = see(stacks[0], reader, parts[1])
                return "none" if value is None else f"[{', '.join(value)}]"
            if word == "apart":
                found = apart(*stacks)
                return "alike" if found is None else found[1]
            if word == "normal":
                return normal_text(stacks[0])
            word, found = merge(*[stack[0] for stack in stacks])
            texts[parts[0]] = found if word == "merged" else texts.get(parts[0])
            return "merged" if word == "merged" else f"clash {len(found)}"
        except LayerError as error:
            return f"error {type(error).__name__}"

    def test_a_replayed_log_does_the_same(self):
        rng = random.Random(49)
        seen = set()
        for _ in range(60):
            console, texts, log = Console(), {}, ""
            for _ in range(rng.randrange(60)):
                command = self.command(rng)
                answer = self.told(console, command)
                if command.endswith(" ") and command.startswith("show") or "os:b,at:b" in command:
                    self.assertEqual(answer, ("BadSyntax", {"at": 0}))
                    continue
                log += command + "\n"
                seen.add(answer[:7])
                self.assertEqual(answer, self.plain_answer(texts, command), command)
            self.assertEqual(console.log(), log)
            other = Console.replayed(log)
            self.assertEqual(other.log(), log)
            for name in "abcq":
                self.assertEqual(console.run(f"show {name}"), texts.get(name, "error Unknown"))
                self.assertEqual(other.run(f"show {name}"), texts.get(name, "error Unknown"))
            for _ in range(40):
                command = self.command(rng)
                self.assertEqual(self.told(console, command), self.told(other, command))
            self.assertEqual(console.log(), other.log())
        self.assertLessEqual({"ok", "error B", "error U", "alike", "merged", "clash 1", "none", "[a]"}, seen)


if __name__ == "__main__":
    unittest.main()
