"""The document a second time, as plainly as it can be said: what the tests hold the program against."""

import itertools
import random

SIGNS = {"=": "set", "+=": "append", "^=": "prepend", "-=": "drop", "?=": "default"}


def lines_read(text):
    """Tuples (line, name, word, items, conditions) of a text's statements, and the conditions of all its whens."""
    found, whens, open_whens, section = [], [], [], ""
    for at, line in enumerate(text.split("\n")[:-1]):
        words = line.split("#")[0].replace(",", "").split()
        if not words:
            continue
        if words[0].startswith("["):
            section = words[0].strip("[]")
        elif words == ["end"]:
            open_whens.pop()
        elif words[0] == "when":
            open_whens.append((words[1], tuple(word for word in words[3:] if word != "not"), words[3] != "not"))
            whens.append(open_whens[-1])
        else:
            key, word, items = (words[1], words[0], ()) if words[0] in ("unset", "lock") else (
                words[0], SIGNS[words[1]], tuple(words[2:]))
            found.append((at, f"{section}.{key}" if section else key, word, items, tuple(open_whens)))
    return found, whens


def holds(conditions, reader):
    for fact, values, wanted in conditions:
        has_one = any((fact, value) in [tuple(pair) for pair in reader] for value in values)
        if has_one != wanted:
            return False
    return True


def on(stack, reader, name):
    """Tuples (layer, line, word, items) of the statements on a name that hold for a reader."""
    return [
        (layer, at, word, items) for layer, text in enumerate(stack)
        for at, each, word, items, conditions in lines_read(text)[0] if each == name and holds(conditions, reader)
    ]


def do(word, items, value, locked):
    """What a statement does to a setting."""
    if locked:
        return value, True
    if word == "lock":
        return value, True
    if word == "set":
        return items, False
    if word == "unset":
        return None, False
    if word == "default":
        return (items if value is None else value), False
    if word == "drop":
        return (None if value is None else tuple(item for item in value if item not in items)), False
    if word == "append":
        return (() if value is None else value) + items, False
    return items + (() if value is None else value), False


def end_of(stack, reader, name, value=None):
    """The value and whether it is locked, behind all statements."""
    locked = False
    for _, _, word, items in on(stack, reader, name):
        value, locked = do(word, items, value, locked)
    return value, locked


def seen(stack, reader, name):
    return end_of(stack, reader, name)[0]


def names(*stacks):
    return sorted({row[1] for stack in stacks for text in stack for row in lines_read(text)[0]})


def facts(*stacks):
    found = {}
    for stack in stacks:
        for text in stack:
            for fact, values, _ in lines_read(text)[1]:
                found.setdefault(fact, set()).update(values)
    return tuple((fact, tuple(sorted(found[fact]))) for fact in sorted(found))


def readers(*stacks):
    ways = [[None, *values] for _, values in facts(*stacks)]
    return [
        tuple((fact, value) for (fact, _), value in zip(facts(*stacks), chosen) if value is not None)
        for chosen in itertools.product(*ways)
    ]


def starts(*stacks):
    """Values by which all meanings of these stacks are told from each other."""
    items = sorted({item for stack in stacks for text in stack for row in lines_read(text)[0] for item in row[3]})
    return [None, (), *[(item,) for item in items], ("fresh-item",)]


def effect(stack, reader, name, values):
    return [end_of(stack, reader, name, value) for value in values]


def first_difference(first, second):
    """The first name and reader for which two stacks do not do the same, or None."""
    values = starts(first, second)
    for name in names(first, second):
        for reader in readers(first, second):
            if effect(first, reader, name, values) != effect(second, reader, name, values):
                return name, reader
    return None


def plain(value):
    """Whether a value is of plain tuples at every level."""
    if type(value) is tuple:
        return all(plain(part) for part in value)
    return type(value) in (str, int, bool, type(None))


KEYS = ("x", "x", "y")
SECTIONS = ("[s]", "[]", "[s.t]")
WHENS = tuple(
    f"when {fact} is {way}{values}" for fact in ("os", "at") for way in ("", "not ") for values in ("a", "b", "b, a"))


def random_line(rng):
    key = rng.choice(KEYS)
    items = [rng.choice("ab") for _ in range(rng.choice((0, 1, 1, 2)))]
    sign = rng.choice(("=", "+=", "+=", "^=", "-=", "?="))
    if not items and sign not in ("=", "?="):
        items = ["a"]
    plain_line = f"{key} {sign} {', '.join(items)}".rstrip(" ")
    return rng.choice((plain_line,) * 8 + (f"unset {key}", f"  unset {key} # c", f"lock {key}"))


def random_text(rng, most=6, sections=True):
    """A text of some statements, with whens, sections and comments among them."""
    lines, deep = [], 0
    for _ in range(rng.randrange(most + 1)):
        draw = rng.random()
        if draw < 0.2:
            lines.append(rng.choice(WHENS))
            deep += 1
        elif draw < 0.35 and deep:
            lines.append("end")
            deep -= 1
        elif draw < 0.42 and sections:
            lines.append(rng.choice(SECTIONS))
        elif draw < 0.45:
            lines.append(rng.choice(("", "# c", "  ")))
        else:
            lines.append(random_line(rng))
    return "".join(line + "\n" for line in lines + ["end"] * deep)


def random_stacks(seed, many, layers=3, most=6, sections=True):
    """As many stacks, the same ones for the same seed."""
    rng = random.Random(seed)
    return [
        tuple(random_text(rng, most, sections) for _ in range(rng.randrange(layers + 1))) for _ in range(many)
    ]
