"""The plain tree: what a tree of folders and files means."""

from lyinghouse.deeds import DONE, MOST_SIGNS, answer_to, do, is_change
from lyinghouse.errors import BadDeed, BadDeeds, BadPath, NoFile
from lyinghouse.kinds import is_clean, is_integer, is_made_of
from lyinghouse.things import Things, copied, entries_of, names_in, thing_at

MOST_PARTS = 200
NAME_LENGTH = 12
NAME_SIGNS = "abcdefghijklmnopqrstuvwxyz0123456789_."

# What stands behind the word of each deed.
FORMS = {
    "make": ("path",),
    "write": ("path", "text"),
    "put": ("path", "number", "text"),
    "cut": ("path", "number"),
    "link": ("path", "path"),
    "move": ("path", "path"),
    "remove": ("path",),
    "read": ("path",),
    "part": ("path", "number", "number"),
    "list": ("path",),
    "look": ("path",),
}


def is_path(value):
    """Whether any value is a path."""
    if not isinstance(value, str) or not value.startswith("/"):
        return False
    return value == "/" or _are_parts(value[1:].split("/"))


def is_deed(value):
    """Whether any value is a deed."""
    if not (isinstance(value, tuple) and len(value) > 0 and isinstance(value[0], str)):
        return False
    form = FORMS.get(value[0], None)
    if form is None or len(form) != len(value) - 1:
        return False
    return all([_is_of_kind(kind, part) for kind, part in zip(form, value[1:])])


def changes(deed):
    """Whether the deed is one of those that change a tree."""
    _check_deed(deed)
    return is_change(deed)


def parts_of(path):
    """The entry names in a path."""
    if not is_path(path):
        raise BadPath(path)
    return names_in(path)


def path_of(parts):
    """The path with these entry names."""
    if not (isinstance(parts, tuple) and _are_parts(parts)):
        raise BadPath(parts)
    return "/" + "/".join(parts)


def played(deeds):
    """What a new tree answers to these deeds, one after the other, and this tree behind them."""
    if not (isinstance(deeds, tuple) and all([is_deed(deed) for deed in deeds])):
        raise BadDeeds(deeds)
    tree = PlainTree()
    answers = tuple([tree.done(deed) for deed in deeds])
    return answers, tree


class PlainTree:
    """A tree of folders and files: at first the root alone, without entries."""

    def __init__(self):
        self._things = Things()

    def __eq__(self, other):
        return isinstance(other, PlainTree) and self.text == other.text

    @property
    def text(self):
        """The text of the tree: its entries by their paths, then the texts of its files."""
        rows = entries_of(self._things)
        lines = [f"tree {len(rows)}"]
        numbers = {}
        for path, thing in rows:
            if thing in self._things.folders:
                lines.append(f"folder {path}")
            else:
                number = numbers.setdefault(thing, len(numbers))
                lines.append(f"file {path} {number}")
        for thing, number in numbers.items():
            told = self._things.texts[thing].split("\n")
            lines.append(f"text {number} {len(told)}")
            lines.extend(told)
        return "\n".join(lines)

    def done(self, deed):
        """Does the deed, and returns the answer."""
        told = self.answer(deed)
        if told == DONE:
            do(self._things, deed)
        return told

    def answer(self, deed):
        """What done would return; the tree stays as it is."""
        _check_deed(deed)
        return answer_to(self._things, deed)

    def paths(self):
        """The paths of all entries."""
        return tuple([row[0] for row in entries_of(self._things)])

    def links(self, path):
        """The paths of all entries of the file at this path."""
        file = thing_at(self._things, path) if is_path(path) else None
        if file not in self._things.texts:
            raise NoFile(path)
        return tuple([row[0] for row in entries_of(self._things) if row[1] == file])

    def copy(self):
        """A tree that is equal to this one, and changes by itself."""
        other = PlainTree()
        other._things = copied(self._things)
        return other


def _check_deed(deed):
    if not is_deed(deed):
        raise BadDeed(deed)


def _is_of_kind(kind, value):
    if kind == "path":
        return is_path(value)
    if kind == "text":
        return isinstance(value, str) and len(value) <= MOST_SIGNS and is_clean(value)
    return is_integer(value, 0, MOST_SIGNS)


def _are_parts(parts):
    return len(parts) <= MOST_PARTS and all([_is_entry_name(part) for part in parts])


def _is_entry_name(value):
    if not isinstance(value, str) or value in (".", ".."):
        return False
    return 1 <= len(value) <= NAME_LENGTH and is_made_of(value, NAME_SIGNS)
