"""Texts of plain trees."""

from lyinghouse.deeds import DONE, MOST_ENTRIES, MOST_SIGNS
from lyinghouse.errors import BadTree
from lyinghouse.kinds import is_clean, number_in
from lyinghouse.plain import PlainTree, is_path


def tree_text(tree):
    """The text of the tree."""
    return tree.text


def read_tree(text):
    """The tree with this text."""
    if not isinstance(text, str):
        raise BadTree(0)
    lines = text.split("\n")
    end = 1 + _many_told(lines)
    tree = PlainTree()
    files = _read_entries(lines[:end], tree)
    if len(lines) < end:
        raise BadTree(len(lines) + 1)
    for number, path in enumerate(files):
        told, end = _text_told(lines, end, number)
        tree.done(("write", path, told))
    if end < len(lines):
        raise BadTree(end + 1)
    return tree


def _many_told(lines):
    """How many entries the first line tells."""
    words = lines[0].split(" ")
    many = number_in(words[1]) if len(words) == 2 and words[0] == "tree" else None
    if many is None or many > MOST_ENTRIES:
        raise BadTree(1)
    return many


def _read_entries(lines, tree):
    """Does in the tree what the lines behind the first one tell; the first path of each file."""
    files = []
    last = "/"
    for at in range(1, len(lines)):
        words = lines[at].split(" ")
        deed = _entry_deed(words, files)
        # The tree refuses an entry whose folder has not been told ahead of it.
        if deed is None or words[1] <= last or tree.done(deed) != DONE:
            raise BadTree(at + 1)
        last = words[1]
        if deed[0] == "write":
            files.append(last)
    return files


def _entry_deed(words, files):
    """The deed that makes the entry of a line with these words; None if it is no such line."""
    if len(words) < 2 or not is_path(words[1]):
        return None
    if words[0] == "folder" and len(words) == 2:
        return ("make", words[1])
    number = number_in(words[2]) if words[0] == "file" and len(words) == 3 else None
    if number is None or number > len(files):
        return None
    if number == len(files):
        return ("write", words[1], "")
    return ("link", files[number], words[1])


def _text_told(lines, at, number):
    """The text of the file with this number, told from this place on, and the place behind it."""
    many = _many_lines_told(lines, at, number)
    signs = many - 1
    for place in range(at + 1, at + 1 + many):
        if place == len(lines):
            raise BadTree(place + 1)
        signs += len(lines[place])
        if signs > MOST_SIGNS or not is_clean(lines[place]):
            raise BadTree(place + 1)
    end = at + 1 + many
    return "\n".join(lines[at + 1:end]), end


def _many_lines_told(lines, at, number):
    """How many lines the text of the file with this number has, as the line at this place tells."""
    words = lines[at].split(" ") if at < len(lines) else []
    is_head = len(words) == 3 and words[0] == "text" and words[1] == str(number)
    many = number_in(words[2]) if is_head else None
    if many is None or not 1 <= many <= MOST_SIGNS + 1:
        raise BadTree(at + 1)
    return many
