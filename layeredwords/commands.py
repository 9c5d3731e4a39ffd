"""Commands: the forms of what a console is told."""

from layeredwords.texts import is_name, is_reader

LONGEST_TEXT_NAME = 12
SMALL_LETTERS = "abcdefghijklmnopqrstuvwxyz"


def form_of_command(command):
    """A command's word, the names of texts that must be known, and what it is told; None if it has no form.

    What is told are, in a tuple, the parts behind the word: names as strings, or in a list
    where several may stand, and readers as such.
    """
    word, _, rest = command.partition(" ")
    if word == "line":
        return line_form(rest)
    parts = rest.split(" ")
    if word in ("clear", "show"):
        return (word, parts, (parts[0],)) if len(parts) == 1 and are_text_names(parts) else None
    if word == "merge":
        return (word, parts[1:], tuple(parts)) if len(parts) == 4 and are_text_names(parts) else None
    if word == "see":
        return see_form(parts)
    many = {"normal": 1, "apart": 2}
    if len(parts) != many.get(word):
        return None
    stacks = [part.split(",") for part in parts]
    names = [name for stack in stacks for name in stack]
    return (word, names, tuple(stacks)) if are_text_names(names) else None


def line_form(rest):
    """The form of what stands behind the word line and a blank."""
    name, blank, line = rest.partition(" ")
    return ("line", [], (name, line)) if blank and is_text_name(name) else None


def see_form(parts):
    """The form of the parts behind the word see."""
    if len(parts) != 3:
        return None
    reader = reader_of(parts[0])
    names = parts[2].split(",")
    if reader is None or not is_name(parts[1]) or not are_text_names(names):
        return None
    return ("see", names, (reader, parts[1], names))


def reader_of(part):
    """The reader that is told by "-" or by words FACT:VALUE and commas; None if it is none."""
    if part == "-":
        return ()
    pairs = tuple([tuple(pair.split(":")) for pair in part.split(",")])
    return pairs if is_reader(pairs) else None


def is_text_name(name):
    """Whether a string may name a text of a console."""
    return 1 <= len(name) <= LONGEST_TEXT_NAME and all(sign in SMALL_LETTERS for sign in name)


def are_text_names(names):
    """Whether each of some strings may name a text of a console."""
    return all(is_text_name(name) for name in names)
