"""Kinds of arguments that several modules ask for."""

NAME_LENGTH = 8
FEWEST_DESKS = 2
MOST_DESKS = 5
GREATEST_NUMBER = 10 ** 18
GREATEST_COUNT = 10 ** 9
NUMBER_FIGURES = 9
LETTERS = "abcdefghijklmnopqrstuvwxyz"


def is_integer(value, low, high):
    """Whether any value is an integer from low to high; True and False are none."""
    return isinstance(value, int) and not isinstance(value, bool) and low <= value <= high


def is_made_of(text, signs):
    """Whether each sign of the string is one of these signs."""
    # strip takes these signs away from both ends: something stays only if another one stands there.
    return text.strip(signs) == ""


def is_name(value):
    """Whether any value is a name: one to eight letters a to z."""
    return isinstance(value, str) and 1 <= len(value) <= NAME_LENGTH and is_made_of(value, LETTERS)


def is_names(value):
    """Whether any value is the names of desks: an ascending tuple of two to five names."""
    if not (isinstance(value, tuple) and FEWEST_DESKS <= len(value) <= MOST_DESKS):
        return False
    if not all([is_name(part) for part in value]):
        return False
    return all([value[at] < value[at + 1] for at in range(len(value) - 1)])


def are_counts(value, many):
    """Whether any value is counts for so many desks."""
    if not (isinstance(value, tuple) and len(value) == many):
        return False
    return all([is_integer(part, 0, GREATEST_COUNT) for part in value])


def is_block(value):
    """Whether any value could be the name of a block: who made it, and which one it is."""
    if not (isinstance(value, tuple) and len(value) == 2):
        return False
    return is_name(value[0]) and is_integer(value[1], 0, GREATEST_NUMBER)


def is_clean(text):
    """Whether each sign of the string is a printable ASCII character or a line feed."""
    shown = text.replace("\n", "")
    return shown.isascii() and shown.isprintable()


def number_in(word):
    """The number that a word of a text tells, written as Python writes it; None if it tells none."""
    if not (word.isascii() and word.isdigit() and len(word) <= NUMBER_FIGURES):
        return None
    return int(word) if word == str(int(word)) else None
