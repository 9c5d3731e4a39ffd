"""Texts: the forms of their lines, their statements, and the checks of stacks."""

from layeredwords.errors import BadLine, BadValue, TooMany
from layeredwords.words import fits, is_ascending, is_key, is_made_of, is_plain_word
from layeredwords.words import is_section, is_sequence, is_word, name_of

MOST_LAYERS = 40
MOST_LINES = 2000
MOST_WHENS = 20
ITEM_SIGNS = "abcdefghijklmnopqrstuvwxyzABCDEFGHIJKLMNOPQRSTUVWXYZ0123456789_-/.:@"
WORD_OF_SIGN = {"=": "set", "+=": "append", "^=": "prepend", "-=": "drop", "?=": "default"}
SIGN_OF_WORD = {"set": "=", "append": "+=", "prepend": "^=", "drop": "-=", "default": "?="}


def is_item(value):
    """Whether value is an item."""
    return is_made_of(value, ITEM_SIGNS) and not value.endswith(".")


def is_items(value):
    """Whether value is a sequence of items."""
    return is_sequence(value) and all(is_item(item) for item in value)


def is_name(value):
    """Whether value is a name: a key, or a section and a key."""
    if not isinstance(value, str):
        return False
    section, dot, key = value.rpartition(".")
    return is_key(key) and (dot == "" or is_section(section))


def is_reader(value):
    """Whether value is a reader: pairs of a plain word and a word, by ascending facts."""
    if not is_sequence(value) or not all(is_fact_and_value(pair) for pair in value):
        return False
    return is_ascending([pair[0] for pair in value])


def is_fact_and_value(pair):
    """Whether pair is a sequence of a plain word and a word."""
    return is_sequence(pair) and len(pair) == 2 and is_plain_word(pair[0]) and is_word(pair[1])


def is_text(value):
    """Whether value is a text of at most 2,000 lines."""
    return isinstance(value, str) and len(rows_of(value)) <= MOST_LINES and first_fault(value) is None


def lines_of(text):
    """The lines of a string that is empty or ends with a line feed, without the line feeds."""
    if not isinstance(text, str) or not is_ended(text):
        raise BadValue(1)
    return tuple(rows_of(text))


def joined(lines):
    """The text of lines without line feeds."""
    if not is_sequence(lines) or not all(isinstance(line, str) and "\n" not in line for line in lines):
        raise BadValue(1)
    return "".join([line + "\n" for line in lines])


def statements(text):
    """The statements of a text: tuples (line, name, word, items, conditions)."""
    check_stack((text,), 1)
    return read_statements(text)


def check_stack(stack, at):
    """Raise the errors of an argument that is described as a stack; at is its place."""
    if not is_sequence(stack) or not all(isinstance(text, str) for text in stack):
        raise BadValue(at)
    if len(stack) > MOST_LAYERS:
        raise TooMany("layers")
    if sum(len(rows_of(text)) for text in stack) > MOST_LINES:
        raise TooMany("lines")
    for layer, text in enumerate(stack):
        fault = first_fault(text)
        if fault is not None:
            raise BadLine(layer, fault)


def holds(conditions, reader):
    """Whether all conditions of a statement hold for a reader."""
    value_of = {fact: value for fact, value in reader}
    return all([(value_of.get(fact) in values) == wanted for fact, values, wanted in conditions])


def is_ended(text):
    """Whether a string is empty or ends with a line feed."""
    return text == "" or text.endswith("\n")


def rows_of(text):
    """The lines of any string; a last one without a line feed is one, too."""
    rows = text.split("\n")
    if rows[-1] == "":
        rows.pop()
    return rows


def read_statements(text):
    """The statements of a string that is known to be a text."""
    found = []
    section = ""
    conditions = []
    for at, line in enumerate(rows_of(text)):
        form = form_of(line)
        kind = form[0]
        if kind == "section":
            section = form[1]
        elif kind == "when":
            conditions.append(form[1:])
        elif kind == "end":
            conditions.pop()
        elif kind != "blank":
            word, key, items = form
            found.append((at, name_of(section, key), word, items, tuple(conditions)))
    return tuple(found)


def read_whens(text):
    """The conditions of all whens of a string that is known to be a text."""
    forms = [form_of(line) for line in rows_of(text)]
    return tuple([form[1:] for form in forms if form[0] == "when"])


def section_at_end(text):
    """The section in force at the end of a string that is known to be a text; empty for none."""
    forms = [form_of(line) for line in rows_of(text)]
    sections = [form[1] for form in forms if form[0] == "section"]
    return sections[-1] if sections else ""


def section_line(section):
    """The line behind which a section, or none if it is empty, is in force."""
    return f"[{section}]"


def statement_line(word, key, items):
    """The line of a statement, without blanks or a comment."""
    if word not in SIGN_OF_WORD:
        return f"{word} {key}"
    ahead = f"{key} {SIGN_OF_WORD[word]}"
    listed = ", ".join(items)
    return f"{ahead} {listed}" if items else ahead


def first_fault(text):
    """The number of the first line by which a string is no text, or None."""
    faults = []
    whens = []
    rows = rows_of(text)
    for at, line in enumerate(rows):
        form = form_of(line)
        if form is None:
            faults.append(at)
        elif form[0] == "when":
            if len(whens) >= MOST_WHENS:
                faults.append(at)
            whens.append(at)
        elif form[0] == "end":
            if whens:
                whens.pop()
            else:
                faults.append(at)
    if not is_ended(text):
        faults.append(len(rows) - 1)
    # The whens that are left have no end.
    return min(faults + whens, default=None)


def form_of(line):
    """What a line is, as a tuple with its kind at its head, or None if it has no form.

    It is ("blank",), ("section", section), ("when", fact, values, whether it is "is"),
    ("end",) or, of a statement, (word, key, items).
    """
    body = body_of(line)
    first, _, rest = body.partition(" ")
    if body == "":
        return ("blank",)
    if body == "end":
        return ("end",)
    if body.startswith("["):
        return section_form(body)
    if first == "when":
        return when_form(rest)
    if first == "unset" or first == "lock":
        return (first, rest, ()) if is_key(rest) else None
    return change_form(first, rest)


def body_of(line):
    """The body of a line, with the blanks behind it that only a comment lets stand there."""
    # No body has a "#", so the first one begins the comment.
    ahead, mark, _ = line.partition("#")
    if mark:
        ahead = ahead.rstrip(" ")
    return ahead.lstrip(" ")


def section_form(body):
    """The form of a body that begins with a bracket; of "[]" the section is empty."""
    section = body[1:-1]
    if body.endswith("]") and (section == "" or is_section(section)):
        return ("section", section)
    return None


def when_form(rest):
    """The form of a when, of what stands behind the word and a blank."""
    fact, _, condition = rest.partition(" ")
    if not is_plain_word(fact) or not condition.startswith("is "):
        return None
    wanted = not condition.startswith("is not ")
    values = tuple(condition.removeprefix("is ").removeprefix("not ").split(", "))
    if "not" in values or len(set(values)) < len(values) or not all(is_word(value) for value in values):
        return None
    return ("when", fact, values, wanted)


def change_form(key, rest):
    """The form of a line with an equals sign, of its key and what stands behind the blank."""
    sign, blank, listed = rest.partition(" ")
    word = WORD_OF_SIGN.get(sign)
    items = tuple(listed.split(", ")) if blank else ()
    if word is None or not is_key(key) or not is_items(items) or not fits(word, items):
        return None
    return (word, key, items)
