"""Merging: the edits of two parties, by what they mean."""

from layeredwords.editing import without_names
from layeredwords.errors import TooMany
from layeredwords.normal import form_of_fact, normal_form, text_with_forms
from layeredwords.readers import check_readers, facts_in
from layeredwords.rows import lowest_fact, meaning_of_rows, rows_by_name, split, values_on
from layeredwords.texts import check_stack

MOST_CLASHES = 512


def merge(base, ours, theirs):
    """("merged", text), or ("clash", clashes) if both parties made unlike things of a setting."""
    check_stack((base,), 1)
    check_stack((ours,), 2)
    check_stack((theirs,), 3)
    facts = facts_in((base, ours, theirs))
    check_readers(facts)
    forms = merged_forms(base, ours, theirs)
    clashes = clashes_of(forms, facts)
    if clashes:
        return ("clash", clashes)
    return ("merged", merged_text(ours, forms))


def merged_forms(base, ours, theirs):
    """The pairs (name, merged form) of all names of three texts, ascending."""
    parties = [rows_by_name([text]) for text in (base, ours, theirs)]
    names = sorted(set([name for party in parties for name in party]))
    return [(name, merged_form([party.get(name, []) for party in parties])) for name in names]


def merged_form(parties):
    """The normal form of what is merged of the rows of base, ours and theirs on a name.

    For readers for which they clash, ("clash", base, ours, theirs), with the meanings of the
    three, stands in the place of a meaning.
    """
    rows = [row for party in parties for row in party]
    fact = lowest_fact(rows)
    if fact is None:
        base, ours, theirs = [meaning_of_rows(party) for party in parties]
        return merged_meaning(base, ours, theirs)
    values = [None, *values_on(rows, fact)]
    chosen = [split(party, fact, values) for party in parties]
    return form_of_fact(fact, {value: merged_form([left[value] for left in chosen]) for value in values})


def merged_meaning(base, ours, theirs):
    """What three meanings are merged to, or ("clash", base, ours, theirs)."""
    if ours == base or ours == theirs:
        return theirs
    return ours if theirs == base else ("clash", base, ours, theirs)


def clashes_of(forms, facts):
    """The tuples (name, reader, base, ours, theirs) of all clashes in forms, for the readers of facts."""
    found = []
    for name, form in forms:
        found.extend([(name, reader, *clash[1:]) for reader, clash in clashes_in(form, facts)])
        if len(found) > MOST_CLASHES:
            raise TooMany("clashes")
    return tuple(found)


def has_clash(form):
    """Whether there is a clash anywhere in a merged form."""
    if form[0] != "fact":
        return form[0] == "clash"
    _, _, branches, other = form
    return has_clash(other) or any(has_clash(chosen) for _, chosen in branches)


def clashes_in(form, facts):
    """The pairs (reader, clash) of a merged form, in the order of the readers of facts.

    A form that does not ask for the first fact is the same for all its values.
    """
    if form[0] == "clash" and not facts:
        return [((), form)]
    if not has_clash(form):
        return []
    fact, values = facts[0]
    asked = form[0] == "fact" and form[1] == fact
    chosen = dict(form[2]) if asked else {}
    other = form[3] if asked else form
    found = []
    for value in (None, *values):
        pair = () if value is None else ((fact, value),)
        further = clashes_in(chosen.get(value, other), facts[1:])
        found.extend([(pair + reader, clash) for reader, clash in further])
    return found


def merged_text(ours, forms):
    """The text of ours, with the lines of the merged forms for the names that are not as in ours."""
    own = rows_by_name([ours])
    changed = [(name, form) for name, form in forms if form != normal_form(own.get(name, []))]
    return text_with_forms(without_names(ours, [name for name, _ in changed]), changed)
