"""Parts 8 and 9 of the document a second time, as plainly as they can be said: what the tests hold the program against."""

import itertools

import plainly
from layeredwords.comparing import meaning
from layeredwords.normal import normal_text

SIGNS = {word: sign for sign, word in plainly.SIGNS.items()}


def line_of(name, word, items=()):
    key = name.split(".")[-1]
    return f"{key} {SIGNS[word]} {', '.join(items)}".rstrip(" ") if word in SIGNS else f"{word} {key}"


def section_of(name):
    return ".".join(name.split(".")[:-1])


def section_behind(lines):
    """The section in force behind lines."""
    bodies = [line.split("#")[0].strip(" ") for line in lines]
    return ([""] + [body[1:-1] for body in bodies if body.startswith("[")])[-1]


def text_of(lines):
    return "".join(line + "\n" for line in lines)


def put(text, name, word, items):
    lines = text.split("\n")[:-1]
    if section_behind(lines) != section_of(name):
        lines.append(f"[{section_of(name)}]")
    return text_of(lines + [line_of(name, word, items)])


def without(text, names):
    gone = [row[0] for row in plainly.lines_read(text)[0] if row[1] in names]
    return text_of(line for at, line in enumerate(text.split("\n")[:-1]) if at not in gone)


def with_line(text, at, *lines):
    own = text.split("\n")[:-1]
    return text_of(own[:at] + list(lines) + own[at:])


def exchanged(stack, layer, text):
    return (*stack[:layer], text, *stack[layer + 1:])


def first_lock(stack, reader, name):
    """The pair (layer, line) of the statement that locks the setting, or None."""
    return next((row[:2] for row in plainly.on(stack, reader, name) if row[2] == "lock"), None)


def meaning_behind(stack, place, reader, name):
    """The meaning of what stands at a place (layer, line) or behind it."""
    before = [row for row in plainly.on(stack, reader, name) if row[:2] < place]
    left = list(stack)
    for layer in range(len(stack)):
        gone = [row[1] for row in before if row[0] == layer]
        # A blank line in its place, so that all lines keep their numbers.
        left[layer] = text_of("" if at in gone else line for at, line in enumerate(stack[layer].split("\n")[:-1]))
    return meaning(left, reader, name)


def middle_that_fits(wanted, behind):
    """The middle of [42], or None if the line is to unset."""
    if wanted is None or behind[0] == "const":
        return None
    for start, end in itertools.combinations_with_replacement(range(len(wanted) + 1), 2):
        if (wanted[:start], wanted[end:]) == (behind[1], behind[3]) and not set(wanted[start:end]) & set(behind[2]):
            return wanted[start:end]
    return None


def tries(stack, layer, reader, name, wanted):
    """The texts of a layer that [42] tries, in order."""
    text = stack[layer]
    own = [row for row in plainly.on(stack, reader, name) if row[0] == layer]
    locks = [row[1] for row in own if row[2] == "lock"]
    place = (layer, locks[0]) if locks else (layer + 1, 0)
    middle = middle_that_fits(wanted, meaning_behind(stack, place, reader, name))
    word, items = ("unset", ()) if middle is None else ("set", middle)
    yield with_line(text, locks[0], line_of(name, word, items)) if locks else put(text, name, word, items)
    lock = line_of(name, "lock")
    reached = [
        row[1] for at, row in enumerate(own)
        if state_behind(stack, row[:2], reader, name) == (wanted, False)
    ]
    if reached:
        yield with_line(text, reached[-1] + 1, lock)
    elif state_behind(stack, (layer, -1), reader, name) == (wanted, False):
        yield with_line(text, 0, *([f"[{section_of(name)}]", lock, "[]"] if section_of(name) else [lock]))


def state_behind(stack, place, reader, name):
    """The value and whether it is locked, behind the statements up to a place (layer, line)."""
    value, locked = None, False
    for layer, line, word, items in plainly.on(stack, reader, name):
        if (layer, line) <= place:
            value, locked = plainly.do(word, items, value, locked)
    return value, locked


def wish(stack, free, reader, name, wanted):
    if plainly.seen(stack, reader, name) == wanted:
        return ("seen",)
    lock = first_lock(stack, reader, name)
    reasons = []
    for layer in reversed(free):
        if lock is not None and lock < (layer, 0):
            reasons.insert(0, ("locked", lock))
            continue
        for text in tries(stack, layer, reader, name, wanted):
            if plainly.seen(exchanged(stack, layer, text), reader, name) == wanted:
                return ("line", layer, text)
        reasons.insert(0, ("covered", meaning_behind(stack, (layer + 1, 0), reader, name)))
    return ("barred", tuple(reasons))


def one_more(text, name, items):
    """The text with any one statement on a name more, of up to two of these items, at any place."""
    lines = text.split("\n")[:-1]
    lists = [chosen for many in range(3) for chosen in itertools.product(items, repeat=many)]
    bodies = [line_of(name, word, chosen) for word in SIGNS for chosen in lists if chosen or word in ("set", "default")]
    for at in range(len(lines) + 1):
        for body in bodies + [line_of(name, "unset"), line_of(name, "lock")]:
            yield with_line(text, at, f"[{section_of(name)}]", body, f"[{section_behind(lines[:at])}]")


def meanings_of_three(texts, reader, name):
    return tuple(meaning((text,), reader, name) for text in texts)


def clashes(base, ours, theirs):
    """The clashes of [45] and [46]."""
    texts = (base, ours, theirs)
    return tuple(
        (name, reader, *meanings_of_three(texts, reader, name))
        for name in plainly.names(texts) for reader in plainly.readers(texts)
        if len(set(meanings_of_three(texts, reader, name))) == 3
    )


def merged_meaning(base, ours, theirs):
    if ours == base:
        return theirs
    if theirs == base:
        return ours
    assert ours == theirs
    return ours


def changed_names(base, ours, theirs):
    """The names for which the merged meaning is not, for all readers, that of ours."""
    texts = (base, ours, theirs)
    return [
        name for name in plainly.names(texts) if any(
            merged_meaning(*meanings_of_three(texts, reader, name)) != meaning((ours,), reader, name)
            for reader in plainly.readers(texts)
        )
    ]


def merged(base, ours, theirs, text):
    """How [47] writes a merged text, the meanings being those of this one."""
    changed = changed_names(base, ours, theirs)
    lines = without(ours, changed).split("\n")[:-1]
    for name in changed:
        others = [each for each in plainly.names((text,)) if each != name]
        own = normal_text((without(text, others),)).split("\n")[:-1]
        if own and section_of(name):
            own.pop(0)
        if own and section_behind(lines) != section_of(name):
            lines.append(f"[{section_of(name)}]")
        lines += own
    return text_of(lines)
