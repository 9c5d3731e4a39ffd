"""Rows: what the statements on one name do, as pairs of conditions and a meaning.

Those that stand side by side and have the same conditions make one row.
"""

from layeredwords.meanings import follow_all, statement_meaning
from layeredwords.texts import read_statements


def rows_by_name(stack):
    """The rows of each name of a stack that is known to be one."""
    found = {}
    for text in stack:
        for _, name, word, items, conditions in read_statements(text):
            found.setdefault(name, []).append((conditions, statement_meaning(word, items)))
    return {name: merged(rows) for name, rows in found.items()}


def merged(rows):
    """The rows, with those of the same conditions that stand side by side made one."""
    groups = []
    for conditions, meaning in rows:
        if groups and groups[-1][0] == conditions:
            groups[-1][1].append(meaning)
        else:
            groups.append((conditions, [meaning]))
    return [(conditions, follow_all(meanings)) for conditions, meanings in groups]


def meaning_of_rows(rows):
    """The meaning of rows without conditions, one after the other."""
    return follow_all([meaning for _, meaning in rows])


def lowest_fact(rows):
    """The first fact, ascending, of the conditions of rows, or None if they have none."""
    return min([fact for conditions, _ in rows for fact, _, _ in conditions], default=None)


def values_on(rows, fact):
    """The values in the conditions on a fact, ascending."""
    return sorted(set([
        value for conditions, _ in rows for each, values, _ in conditions if each == fact for value in values
    ]))


def split(rows, fact, values):
    """For each of the values, the rows that are left for readers that have it for the fact.

    None, among the values, stands for no pair of the fact. No condition on the fact is left.
    """
    found = {value: [] for value in values}
    for conditions, meaning in rows:
        left = (tuple([condition for condition in conditions if condition[0] != fact]), meaning)
        for value in values_that_hold(conditions, fact, values):
            found[value].append(left)
    return {value: merged(chosen) for value, chosen in found.items()}


def values_that_hold(conditions, fact, values):
    """Those of the values by which all conditions on the fact hold."""
    left = values
    for each, listed, wanted in conditions:
        if each == fact:
            known = set(listed)
            left = [value for value in left if (value in known) == wanted]
    return left
