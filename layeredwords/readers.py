"""Readers: what the conditions of stacks ask for, and the readers that this tells apart."""

from layeredwords.errors import TooMany
from layeredwords.texts import check_stack, read_statements, read_whens

MOST_READERS = 512


def facts_of(stack):
    """The pairs (fact, values) of the conditions of all whens of a stack."""
    check_stack(stack, 1)
    return facts_in(stack)


def readers(stack):
    """The readers that have, for each fact of a stack, no pair or one of its values."""
    check_stack(stack, 1)
    facts = facts_in(stack)
    check_readers(facts)
    found = [()]
    for fact, values in facts:
        pairs = [(), *[((fact, value),) for value in values]]
        found = [reader + pair for reader in found for pair in pairs]
    return tuple(found)


def names_of(stack):
    """The names of the statements of a stack."""
    check_stack(stack, 1)
    return tuple(sorted(set([statement[1] for text in stack for statement in read_statements(text)])))


def facts_in(stack):
    """The pairs (fact, values) of a stack that is known to be one, or of several as one."""
    values_of = {}
    for text in stack:
        for fact, values, _ in read_whens(text):
            values_of.setdefault(fact, []).extend(values)
    return tuple([(fact, tuple(sorted(set(values_of[fact])))) for fact in sorted(values_of)])


def check_readers(facts):
    """Raise TooMany if facts tell apart more readers than may be."""
    many = 1
    for _, values in facts:
        many = many * (1 + len(values))
        if many > MOST_READERS:
            raise TooMany("readers")
