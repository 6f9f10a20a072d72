"""Texts in the blocks of a bag."""

from lyinghouse.checks import check_name, check_number, check_root
from lyinghouse.drafts import settled
from lyinghouse.errors import BadText, Beyond, TooLong
from lyinghouse.kinds import is_clean
from lyinghouse.pages import EMPTY, changed, first_unlike, signs_in, text_blocks, text_in

LONGEST_FILE = 20000


def file_new(bag, name, text):
    """The root of this text."""
    check_name(name)
    _check_text(text)
    return settled(bag, name, changed(bag, EMPTY, len(text), 0, text))


def file_text(bag, root):
    """The text."""
    check_root(root)
    return signs_in(bag, text_in(bag, root), 0, LONGEST_FILE)


def file_length(bag, root):
    """How many signs the text has."""
    check_root(root)
    return text_in(bag, root)[1]


def file_part(bag, root, at, many):
    """The signs of the text from the place at on, at most so many."""
    check_root(root)
    check_number(at, 0, LONGEST_FILE)
    check_number(many, 0, LONGEST_FILE)
    return signs_in(bag, text_in(bag, root), at, many)


def file_put(bag, name, root, at, text):
    """The root of the text that has this text from the place at on, and is else as before."""
    check_name(name)
    check_root(root)
    check_number(at, 0, LONGEST_FILE)
    _check_text(text)
    old = text_in(bag, root)
    if at > old[1]:
        raise Beyond(old[1])
    if at + len(text) > LONGEST_FILE:
        raise TooLong(LONGEST_FILE)
    return settled(bag, name, changed(bag, old, max(old[1], at + len(text)), at, text))


def file_cut(bag, name, root, length):
    """The root of the first so many signs of the text."""
    check_name(name)
    check_root(root)
    check_number(length, 0, LONGEST_FILE)
    old = text_in(bag, root)
    if length > old[1]:
        raise Beyond(old[1])
    return settled(bag, name, changed(bag, old, length, 0, ""))


def file_unlike(bag, one, other):
    """The first place at which the texts do not have the same sign; None if they are equal."""
    check_root(one)
    check_root(other)
    if one == other:
        return None
    texts = text_in(bag, one), text_in(bag, other)
    place = first_unlike(bag, texts[0], texts[1])
    lengths = texts[0][1], texts[1][1]
    if place is None and lengths[0] != lengths[1]:
        return min(lengths)
    return place


def file_blocks(bag, root):
    """The names of all blocks in which the text lies."""
    check_root(root)
    return tuple(sorted(text_blocks(bag, text_in(bag, root))))


def _check_text(text):
    if not (isinstance(text, str) and len(text) <= LONGEST_FILE and is_clean(text)):
        raise BadText(None)
