"""Meanings: what statements do, one after the other, to a setting."""

from layeredwords.errors import BadValue
from layeredwords.texts import is_items
from layeredwords.words import STATEMENT_WORDS, fits, is_ascending, is_sequence


def is_meaning(value):
    """Whether value is a meaning; lists may stand for tuples."""
    if not is_sequence(value) or len(value) == 0:
        return False
    if value[0] == "const":
        return len(value) == 3 and is_items_or_none(value[1]) and isinstance(value[2], bool)
    return value[0] == "around" and len(value) == 6 and has_around_parts(value)


def has_around_parts(value):
    """Whether what stands behind the word "around" of six parts is as a meaning has it."""
    _, before, dropped, behind, default, locked = value
    if not is_items(before) or not is_items(dropped) or not is_items(behind):
        return False
    if default is None and len(before) + len(behind) > 0:
        return False
    return is_ascending(dropped) and is_items_or_none(default) and isinstance(locked, bool)


def is_items_or_none(value):
    """Whether value is a sequence of items or None."""
    return value is None or is_items(value)


def nothing():
    """The meaning of no statement."""
    return ("around", (), (), (), None, False)


def meaning_of(word, items):
    """The meaning of a statement."""
    if word not in STATEMENT_WORDS:
        raise BadValue(1)
    if not is_items(items) or not fits(word, items):
        raise BadValue(2)
    return statement_meaning(word, tuple(items))


def then(first, second):
    """The meaning of first and then second."""
    if not is_meaning(first):
        raise BadValue(1)
    if not is_meaning(second):
        raise BadValue(2)
    return follow(with_tuples(first), with_tuples(second))


def act(meaning, value, locked):
    """The value, or None, and whether it is locked, behind what the meaning does to a setting."""
    if not is_meaning(meaning):
        raise BadValue(1)
    if not is_items_or_none(value):
        raise BadValue(2)
    if not isinstance(locked, bool):
        raise BadValue(3)
    value = None if value is None else tuple(value)
    if locked:
        return (value, True)
    return (value_behind(with_tuples(meaning), value), meaning[-1])


def with_tuples(meaning):
    """The meaning, with tuples in the place of lists."""
    return tuple([tuple(part) if is_sequence(part) else part for part in meaning])


def statement_meaning(word, items):
    """The meaning of a statement that is known to have one of the words, and items in a tuple."""
    if word == "set":
        return ("const", items, False)
    if word == "unset":
        return ("const", None, False)
    if word == "append":
        return ("around", (), (), items, (), False)
    if word == "prepend":
        return ("around", items, (), (), (), False)
    if word == "drop":
        return ("around", (), tuple(sorted(set(items))), (), None, False)
    if word == "default":
        return ("around", (), (), (), items, False)
    return ("around", (), (), (), None, True)


def follow(first, second):
    """The meaning of first and then second, which are known to be meanings, in tuples."""
    if first[-1]:
        return first
    if second[0] == "const":
        return second
    if first[0] == "const":
        return ("const", value_behind(second, first[1]), second[-1])
    _, before, dropped, behind, default, _ = first
    _, ahead, taken, after, fallback, locked = second
    return (
        "around",
        ahead + without_items(before, taken),
        tuple(sorted(set(dropped + taken))),
        without_items(behind, taken) + after,
        fallback if default is None else without_items(default, taken),
        locked,
    )


def follow_all(meanings):
    """The meaning of meanings, which are known to be such, one after the other."""
    left = list(meanings)
    # In pairs: from the first one on, a long value would be copied for each statement.
    while len(left) > 1:
        odd = left[len(left) // 2 * 2:]
        left = [follow(first, second) for first, second in zip(left[::2], left[1::2])] + odd
    return left[0] if left else nothing()


def value_behind(meaning, value):
    """The value, or None, that a meaning makes of a value, or of None, that is not locked."""
    if meaning[0] == "const":
        return meaning[1]
    _, before, dropped, behind, default, _ = meaning
    middle = default if value is None else without_items(value, dropped)
    return None if middle is None else before + middle + behind


def without_items(items, dropped):
    """The items, in a tuple, that are none of the dropped ones."""
    # Mostly nothing is dropped, and long values are then not gone through.
    if not dropped:
        return items
    gone = set(dropped)
    return tuple([item for item in items if item not in gone])


def trials(meanings):
    """The values by which meanings that lock alike are told from each other, in order."""
    items = sorted(set([item for meaning in meanings for item in items_in(meaning)]))
    return (None, (), *[(item,) for item in items], (fresh_item(items),))


def items_in(meaning):
    """All items that stand in a meaning."""
    return [item for part in meaning if is_sequence(part) for item in part]


def fresh_item(items):
    """The first one of "new0", "new1", "new2", ... that is none of the items."""
    known = set(items)
    at = 0
    while f"new{at}" in known:
        at += 1
    return f"new{at}"
