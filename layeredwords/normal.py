"""Normal forms: the one form of all stacks that are alike, and its text."""

from layeredwords.errors import BadValue, TooMany
from layeredwords.readers import check_readers, facts_in
from layeredwords.rows import lowest_fact, meaning_of_rows, rows_by_name, split, values_on
from layeredwords.texts import MOST_LINES, check_stack, is_name, joined, lines_of
from layeredwords.texts import section_at_end, section_line, statement_line
from layeredwords.words import name_of, section_and_key


def normal(stack, name):
    """The normal form of a stack for a name."""
    check_stack(stack, 1)
    if not is_name(name):
        raise BadValue(2)
    check_readers(facts_in(stack))
    return normal_form(rows_by_name(stack).get(name, []))


def normal_text(stack):
    """The text of the normal forms of all names of a stack."""
    check_stack(stack, 1)
    check_readers(facts_in(stack))
    rows = rows_by_name(stack)
    names = [name_of(section, key) for section, key in sorted([section_and_key(name) for name in rows])]
    return text_with_forms("", [(name, normal_form(rows[name])) for name in names])


def text_with_forms(text, forms):
    """A text with the lines of normal forms, pairs (name, form), behind it."""
    lines = list(lines_of(text))
    last = section_at_end(text)
    for name, form in forms:
        section, key = section_and_key(name)
        own = lines_of_form(form, key)
        if own and section != last:
            lines.append(section_line(section))
            last = section
        lines.extend(own)
        if len(lines) > MOST_LINES:
            raise TooMany("lines")
    return joined(lines)


def normal_form(rows):
    """The normal form of the meanings that rows have for the readers."""
    fact = lowest_fact(rows)
    if fact is None:
        return meaning_of_rows(rows)
    chosen = split(rows, fact, [None, *values_on(rows, fact)])
    return form_of_fact(fact, {value: normal_form(left) for value, left in chosen.items()})


def form_of_fact(fact, forms):
    """The normal form of the forms for each value of a fact, ascending, and for None, which is all else."""
    other = forms[None]
    branches = tuple([(value, form) for value, form in forms.items() if form != other])
    return ("fact", fact, branches, other) if branches else other


def lines_of_form(form, key):
    """The lines, in a list, of a normal form for a key."""
    if form[0] == "const":
        return lines_of_const(form, key)
    if form[0] == "around":
        return lines_of_around(form, key)
    _, fact, branches, other = form
    lines = []
    for value, chosen in branches:
        lines.extend(enclosed(f"when {fact} is {value}", lines_of_form(chosen, key)))
    listed = ", ".join([value for value, _ in branches])
    return lines + enclosed(f"when {fact} is not {listed}", lines_of_form(other, key))


def enclosed(when, lines):
    """The lines between a when and an end, if there are any."""
    return [when, *lines, "end"] if lines else []


def lines_of_const(meaning, key):
    """The lines of a meaning that gives a value or none, whatever there is."""
    _, value, locked = meaning
    line = statement_line("unset", key, ()) if value is None else statement_line("set", key, value)
    return [line] + lock_lines(key, locked)


def lines_of_around(meaning, key):
    """The lines of a meaning that leaves something of a value."""
    _, before, dropped, behind, default, locked = meaning
    steps = [("drop", dropped), ("prepend", before), ("append", behind)]
    lines = [statement_line(word, key, items) for word, items in steps if items]
    # To put items around none is to put them around the empty value: that default needs no line.
    needless = default == () and len(before) + len(behind) > 0
    if default is not None and not needless:
        lines.insert(1 if dropped else 0, statement_line("default", key, default))
    return lines + lock_lines(key, locked)


def lock_lines(key, locked):
    """The line that locks, in a list, if there is to be one."""
    return [statement_line("lock", key, ())] if locked else []
