"""Comparing: whether two stacks are alike, and by what a reader tells them apart."""

from layeredwords.meanings import follow, statement_meaning, trials, value_behind
from layeredwords.readers import check_readers, facts_in
from layeredwords.rows import lowest_fact, meaning_of_rows, rows_by_name, split, values_on
from layeredwords.seeing import check_question, meaning_for
from layeredwords.texts import check_stack, joined, section_line, statement_line
from layeredwords.words import section_and_key


def meaning(stack, reader, name):
    """The meaning of the statements on a name that hold for a reader."""
    check_question(stack, reader, name)
    return meaning_for(stack, reader, name)


def alike(first, second):
    """Whether two stacks have the same meanings for all readers and names."""
    check_both(first, second)
    return first_difference(first, second) is None


def apart(first, second):
    """None if two stacks are alike; otherwise by what a reader sees that they are not.

    It is (reader, name, where, text, one, other): one and other are what the reader sees
    in the first and in the second stack, with the text put where it is told.
    """
    check_both(first, second)
    found = first_difference(first, second)
    if found is None:
        return None
    name, reader, one, other = found
    return (reader, name) + telling_layer(name, one, other)


def check_both(first, second):
    """Raise the errors of two stacks that are compared."""
    check_stack(first, 1)
    check_stack(second, 2)
    check_readers(facts_in([*first, *second]))


def first_difference(first, second):
    """The first name and reader with unlike meanings, and these meanings; None if there are none."""
    ones = rows_by_name(first)
    others = rows_by_name(second)
    for name in sorted(set([*ones, *others])):
        found = first_unlike(ones.get(name, []), others.get(name, []))
        if found is not None:
            return (name,) + found
    return None


def first_unlike(ones, others):
    """The first reader for which the rows have unlike meanings, and these; None if there is none.

    Facts and values that the rows do not ask for are not gone through: no pair comes first
    in the order of readers, so the first reader has no pair of them.
    """
    fact = lowest_fact(ones + others)
    if fact is None:
        one, other = meaning_of_rows(ones), meaning_of_rows(others)
        return None if one == other else ((), one, other)
    values = [None, *values_on(ones + others, fact)]
    left, right = split(ones, fact, values), split(others, fact, values)
    for value in values:
        found = first_unlike(left[value], right[value])
        if found is not None:
            reader, one, other = found
            return (reader if value is None else ((fact, value),) + reader, one, other)
    return None


def telling_layer(name, one, other):
    """The first further layer by which unlike meanings are seen, as (where, text, one, other)."""
    values = trials((one, other))
    for value in values:
        low, high = value_behind(one, value), value_behind(other, value)
        if low != high and value is None:
            return ("none", "", low, high)
        if low != high:
            return ("below", setting_text(name, value), low, high)
    # Only one of them locks, and what is set above the other one is seen.
    fresh = values[-1]
    return ("above", setting_text(name, fresh), value_below(one, fresh), value_below(other, fresh))


def value_below(low, items):
    """What is seen of a meaning if a line above it sets the name to these items."""
    return value_behind(follow(low, statement_meaning("set", items)), None)


def setting_text(name, items):
    """A text that sets a name to these items."""
    section, key = section_and_key(name)
    line = statement_line("set", key, items)
    return joined([section_line(section), line] if section else [line])
