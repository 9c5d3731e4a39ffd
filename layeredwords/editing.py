"""Editing: texts with a statement more, and without their statements on a name."""

from layeredwords.errors import BadValue
from layeredwords.texts import check_stack, is_items, is_name, joined, lines_of
from layeredwords.texts import read_statements, section_at_end, section_line, statement_line
from layeredwords.words import STATEMENT_WORDS, fits, section_and_key


def put(text, name, word, items):
    """The text with a statement on a name as its last line."""
    check_text_and_name(text, name)
    if word not in STATEMENT_WORDS:
        raise BadValue(3)
    if not is_items(items) or not fits(word, items):
        raise BadValue(4)
    return with_statement(text, name, word, items)


def without(text, name):
    """The text without the lines of its statements on a name."""
    check_text_and_name(text, name)
    return without_names(text, [name])


def check_text_and_name(text, name):
    """Raise the errors of a text and a name, in this order."""
    check_stack((text,), 1)
    if not is_name(name):
        raise BadValue(2)


def with_statement(text, name, word, items):
    """What put returns for arguments that are known to be right."""
    section, key = section_and_key(name)
    ahead = [] if section == section_at_end(text) else [section_line(section)]
    return text + joined([*ahead, statement_line(word, key, items)])


def with_lines_at(text, at, lines):
    """A text with further lines, the first of which has this number."""
    own = lines_of(text)
    return joined([*own[:at], *lines, *own[at:]])


def without_names(text, names):
    """A string that is known to be a text, without the lines of its statements on these names."""
    known = set(names)
    gone = set([line for line, name, _, _, _ in read_statements(text) if name in known])
    return joined([line for at, line in enumerate(lines_of(text)) if at not in gone])
