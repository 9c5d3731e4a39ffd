"""The console: texts that are kept by names, and commands on them."""

from layeredwords.commands import form_of_command
from layeredwords.comparing import apart
from layeredwords.errors import BadLine, BadSyntax, BadValue, TooMany
from layeredwords.merging import merge
from layeredwords.normal import normal_text
from layeredwords.seeing import see
from layeredwords.texts import joined, lines_of


class Console:
    """Texts by their names, and the commands that were answered."""

    def __init__(self):
        # Lists of lines: a text that grows line by line would be copied for each of them.
        self._lines_by_name = {}
        self._answered = []

    def run(self, command):
        """What a command is answered; a command that has no form raises BadSyntax(0)."""
        form = form_of_command(command)
        if form is None:
            raise BadSyntax(0)
        answer = self._answer(form)
        self._answered.append(command)
        return answer

    def log(self):
        """The commands that were answered, each with a line feed behind it."""
        return joined(self._answered)

    @staticmethod
    def replayed(log):
        """A console that has run the commands of a log."""
        if not isinstance(log, str):
            raise BadValue(1)
        commands = log.split("\n")
        rest = commands.pop()
        for at, command in enumerate(commands):
            if form_of_command(command) is None:
                raise BadSyntax(at)
        if rest != "":
            raise BadSyntax(len(commands))
        console = Console()
        for command in commands:
            console.run(command)
        return console

    def _answer(self, form):
        """The answer to a form, also if a name is not known or a function raises an error."""
        word, names, told = form
        if not all(name in self._lines_by_name for name in names):
            return "error Unknown"
        try:
            return self._answer_known(word, told)
        except BadLine:
            return "error BadLine"
        except TooMany:
            return "error TooMany"

    def _answer_known(self, word, told):
        """The answer to a word and what it is told, all names being known that must be."""
        if word == "line":
            return self._answer_line(*told)
        if word == "clear":
            return self._answer_clear(*told)
        if word == "show":
            return self._text(*told)
        if word == "see":
            return self._answer_see(*told)
        if word == "apart":
            return self._answer_apart(*told)
        if word == "normal":
            return normal_text(self._stack(*told))
        return self._answer_merge(*told)

    def _text(self, name):
        """The text that is kept by a name."""
        return joined(self._lines_by_name[name])

    def _stack(self, names):
        """The texts that are kept by names."""
        return [self._text(name) for name in names]

    def _answer_line(self, name, line):
        self._lines_by_name.setdefault(name, []).append(line)
        return "ok"

    def _answer_clear(self, name):
        self._lines_by_name[name] = []
        return "ok"

    def _answer_see(self, reader, setting, names):
        value = see(self._stack(names), reader, setting)
        return "none" if value is None else "[" + ", ".join(value) + "]"

    def _answer_apart(self, first, second):
        found = apart(self._stack(first), self._stack(second))
        return "alike" if found is None else found[1]

    def _answer_merge(self, name, base, ours, theirs):
        word, found = merge(self._text(base), self._text(ours), self._text(theirs))
        if word == "clash":
            return f"clash {len(found)}"
        self._lines_by_name[name] = list(lines_of(found))
        return "merged"
