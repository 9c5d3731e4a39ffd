"""Seeing: the value of a setting that a reader sees, and the lines that made it."""

from layeredwords.errors import BadValue
from layeredwords.meanings import follow_all, statement_meaning, value_behind
from layeredwords.texts import check_stack, holds, is_name, is_reader, read_statements


def see(stack, reader, name):
    """The value, or None, that a reader sees."""
    check_question(stack, reader, name)
    return value_behind(meaning_for(stack, reader, name), None)


def why(stack, reader, name):
    """The value that a reader sees, where its items come from, and the part of each line."""
    check_question(stack, reader, name)
    value = None
    origins = ()
    locked = False
    steps = []
    for layer, line, word, items in holding(stack, reader, name):
        after = value_behind(statement_meaning(word, items), value)
        if locked:
            part = "locked out"
        elif word != "lock" and after == value:
            part = "idle"
        else:
            part = "counts"
            origins = origins_behind((word, items), (layer, line), value, origins)
            value = after
            locked = word == "lock"
        steps.append((layer, line, word, part))
    return (value, origins, parts_of(steps))


def check_question(stack, reader, name):
    """Raise the errors of the arguments that tell a stack, a reader and a name, in this order."""
    check_stack(stack, 1)
    if not is_reader(reader):
        raise BadValue(2)
    if not is_name(name):
        raise BadValue(3)


def holding(stack, reader, name):
    """Tuples (layer, line, word, items) of the statements on a name that hold for a reader."""
    return [
        (layer, line, word, items)
        for layer, text in enumerate(stack)
        for line, each, word, items, conditions in read_statements(text)
        if each == name and holds(conditions, reader)
    ]


def meaning_for(stack, reader, name):
    """The meaning of the statements on a name that hold for a reader."""
    return follow_all([statement_meaning(word, items) for _, _, word, items in holding(stack, reader, name)])


def origins_behind(statement, place, value, origins):
    """The origins of the items behind a statement, at a place, that changes a value or locks it.

    Of no value, there are none.
    """
    word, items = statement
    if word == "lock":
        return origins
    if word == "drop":
        return tuple([origin for item, origin in zip(value, origins) if item not in items])
    own = (place,) * len(items)
    if word == "append":
        return origins + own
    if word == "prepend":
        return own + origins
    return own


def parts_of(steps):
    """The triples (layer, line, part) of steps (layer, line, word, part), with the covered ones."""
    renewing = [at for at, (_, _, word, part) in enumerate(steps) if part == "counts" and word in ("set", "unset")]
    last = max(renewing, default=0)
    return tuple([
        (layer, line, "covered" if part == "counts" and at < last else part)
        for at, (layer, line, _, part) in enumerate(steps)
    ])
