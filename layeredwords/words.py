"""What texts and meanings are made of: sequences, integers, words, keys and sections."""

LONGEST = 40
MOST_SECTION_WORDS = 4
DIGITS = "0123456789"
PLAIN_SIGNS = "abcdefghijklmnopqrstuvwxyzABCDEFGHIJKLMNOPQRSTUVWXYZ0123456789_"
WORD_SIGNS = "abcdefghijklmnopqrstuvwxyzABCDEFGHIJKLMNOPQRSTUVWXYZ0123456789_-/"
NO_KEYS = ("unset", "lock", "when", "end")

STATEMENT_WORDS = ("set", "append", "prepend", "drop", "default", "unset", "lock")
WORDS_WITHOUT_ITEMS = ("unset", "lock")
WORDS_WITH_ITEMS = ("append", "prepend", "drop")


def is_sequence(value):
    """Whether value is a list or a tuple."""
    return isinstance(value, (list, tuple))


def is_whole_number(value):
    """Whether value is an integer, which True and False are not."""
    return isinstance(value, int) and not isinstance(value, bool)


def is_ascending(values):
    """Whether each of a sequence of strings, or of integers, is greater than the one ahead of it."""
    return all([low < high for low, high in zip(values, values[1:])])


def is_made_of(value, signs):
    """Whether value is a string of 1 to 40 of these signs."""
    return isinstance(value, str) and 1 <= len(value) <= LONGEST and all(sign in signs for sign in value)


def is_word(value):
    """Whether value is a word."""
    return is_made_of(value, WORD_SIGNS)


def is_plain_word(value):
    """Whether value is a plain word."""
    return is_made_of(value, PLAIN_SIGNS) and value[0] not in DIGITS


def is_key(value):
    """Whether value is a key."""
    return is_plain_word(value) and value not in NO_KEYS


def is_section(text):
    """Whether a string is one to four plain words, joined by dots."""
    words = text.split(".")
    return len(words) <= MOST_SECTION_WORDS and all(is_plain_word(word) for word in words)


def name_of(section, key):
    """The name of a key in a section, which is empty for no section."""
    return f"{section}.{key}" if section else key


def section_and_key(name):
    """The section of a name, which is empty if it has none, and its key."""
    section, _, key = name.rpartition(".")
    return (section, key)


def fits(word, items):
    """Whether a statement of this word may have as many items as there are."""
    if word in WORDS_WITHOUT_ITEMS:
        return len(items) == 0
    return word not in WORDS_WITH_ITEMS or len(items) > 0
