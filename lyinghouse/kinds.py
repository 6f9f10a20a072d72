"""Kinds of arguments that several modules ask for."""

NAME_LENGTH = 8
NUMBER_FIGURES = 9
LETTERS = "abcdefghijklmnopqrstuvwxyz"


def is_integer(value, low, high):
    """Whether any value is an integer from low to high; True and False are none."""
    return isinstance(value, int) and not isinstance(value, bool) and low <= value <= high


def is_made_of(text, signs):
    """Whether each sign of the string is one of these signs."""
    # strip takes these signs away from both ends: something stays only if another one stands there.
    return text.strip(signs) == ""


def is_name(value):
    """Whether any value is a name: one to eight letters a to z."""
    return isinstance(value, str) and 1 <= len(value) <= NAME_LENGTH and is_made_of(value, LETTERS)


def is_clean(text):
    """Whether each sign of the string is a printable ASCII character or a line feed."""
    shown = text.replace("\n", "")
    return shown.isascii() and shown.isprintable()


def number_in(word):
    """The number that a word of a text tells, written as Python writes it; None if it tells none."""
    if not (word.isascii() and word.isdigit() and len(word) <= NUMBER_FIGURES):
        return None
    return int(word) if word == str(int(word)) else None
