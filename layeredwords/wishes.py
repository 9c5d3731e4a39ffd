"""Wishes: the one statement more by which a reader sees what is wanted, and what lower layers change."""

from layeredwords.comparing import setting_text
from layeredwords.editing import with_lines_at, with_statement
from layeredwords.errors import BadValue
from layeredwords.meanings import follow, follow_all, is_items_or_none, nothing, statement_meaning
from layeredwords.meanings import trials, value_behind, without_items
from layeredwords.seeing import holding, meaning_for
from layeredwords.texts import check_stack, is_name, is_reader, section_line, statement_line
from layeredwords.words import is_ascending, is_sequence, is_whole_number, section_and_key


def wish(stack, free, reader, name, wanted):
    """By what a reader sees what is wanted.

    It is ("seen",), ("line", layer, text) for a statement more in a free layer, or
    ("barred", reasons) with a reason for each of them.
    """
    check_stack(stack, 1)
    if not are_layers(free, len(stack)):
        raise BadValue(2)
    check_reader_and_name(reader, name)
    if not is_items_or_none(wanted):
        raise BadValue(5)
    wanted = None if wanted is None else tuple(wanted)
    layers = rows_by_layer(stack, reader, name)
    meanings = [meaning_of_layer(rows) for rows in layers]
    starts = values_between(meanings)
    if starts[-1] == wanted:
        return ("seen",)
    aboves = meanings_above(meanings)
    lock = place_of_lock(layers)
    reasons = []
    for layer in reversed(free):
        if lock is not None and lock[0] < layer:
            reasons.append(("locked", lock))
            continue
        text = wished_text(stack[layer], name, wanted, layers[layer], starts[layer], aboves[layer])
        if text is not None:
            return ("line", layer, text)
        reasons.append(("covered", aboves[layer]))
    return ("barred", tuple(reasons[::-1]))


def changes(stack, below, reader, name):
    """None if the layers from number below on hide all that lower layers without locks can do.

    Otherwise a pair of texts that, in the place of the lower layers, make the reader see two values.
    """
    check_stack(stack, 1)
    if not is_whole_number(below) or not 0 <= below <= len(stack):
        raise BadValue(2)
    check_reader_and_name(reader, name)
    meaning = meaning_for(stack[below:], reader, name)
    if meaning[0] == "const":
        return None
    return ("", setting_text(name, first_telling_trial(meaning)))


def first_telling_trial(meaning):
    """The first trial of an around meaning, a value, of which it makes something else than of no value."""
    _, _, dropped, _, default, _ = meaning
    if default != ():
        return ()
    # None and the empty value are made the same, so an item is told if it stays; the fresh one does.
    gone = set(dropped)
    staying = [value for value in trials([meaning])[2:] if value[0] not in gone]
    return staying[0]


def are_layers(value, many):
    """Whether value is an ascending sequence of numbers of so many layers."""
    if not is_sequence(value) or not all(is_whole_number(layer) and 0 <= layer < many for layer in value):
        return False
    return is_ascending(value)


def check_reader_and_name(reader, name):
    """Raise the errors of a reader and a name in the third and the fourth place."""
    if not is_reader(reader):
        raise BadValue(3)
    if not is_name(name):
        raise BadValue(4)


def rows_by_layer(stack, reader, name):
    """For each layer, the tuples (line, word, items) of its statements that hold, up to the first lock."""
    layers = [[] for _ in stack]
    for layer, line, word, items in holding(stack, reader, name):
        layers[layer].append((line, word, items))
        if word == "lock":
            # What stands behind it does nothing.
            break
    return layers


def place_of_lock(layers):
    """The pair (layer, line) of the lock at the end of rows by layer, or None."""
    for layer, rows in enumerate(layers):
        if is_locking(rows):
            return (layer, rows[-1][0])
    return None


def is_locking(rows):
    """Whether the rows of a layer end with a lock."""
    return len(rows) > 0 and rows[-1][1] == "lock"


def meaning_of_layer(rows):
    """The meaning of the rows of a layer."""
    return follow_all([statement_meaning(word, items) for _, word, items in rows])


def values_between(meanings):
    """The value at the beginning of each layer, and at last the one behind all of them."""
    values = [None]
    for meaning in meanings:
        values.append(value_behind(meaning, values[-1]))
    return values


def meanings_above(meanings):
    """For each layer, the meaning of all layers above it."""
    found = [nothing()]
    for meaning in reversed(meanings[1:]):
        found.append(follow(meaning, found[-1]))
    return found[::-1]


def wished_text(text, name, wanted, rows, start, above):
    """The text of a layer with one statement more by which wanted is seen, or None if none does it.

    The setting is not locked at the layer's beginning and has the value start there; above is
    the meaning of the layers above.
    """
    section, key = section_and_key(name)
    if is_locking(rows):
        # Behind the line nothing but the lock is left: it sets all that is wanted.
        word, items = setting_statement(wanted)
        return with_lines_at(text, rows[-1][0], [statement_line(word, key, items)])
    middle = middle_of(wanted, above)
    if value_behind(above, middle) == wanted:
        word, items = setting_statement(middle)
        return with_statement(text, name, word, items)
    lock = statement_line("lock", key, ())
    line = last_line_behind_which(wanted, rows, start)
    if line is not None:
        return with_lines_at(text, line + 1, [lock])
    if start == wanted:
        return with_lines_at(text, 0, [section_line(section), lock, section_line("")] if section else [lock])
    return None


def setting_statement(value):
    """The word and the items of the statement that makes a setting have this value, or None."""
    return ("unset", ()) if value is None else ("set", value)


def middle_of(wanted, meaning):
    """The value between before and behind of which a meaning makes wanted; None if there is none."""
    if wanted is None or meaning[0] == "const":
        return None
    _, before, dropped, behind, _, _ = meaning
    end = len(wanted) - len(behind)
    middle = wanted[len(before):end]
    fitting = before + middle + behind == wanted and without_items(middle, dropped) == middle
    return middle if fitting else None


def last_line_behind_which(wanted, rows, start):
    """The line of the last one of rows behind which the value is wanted, or None."""
    found = None
    value = start
    for line, word, items in rows:
        value = value_behind(statement_meaning(word, items), value)
        if value == wanted:
            found = line
    return found
