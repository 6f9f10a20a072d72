"""A shell: what a person sees of a tree. It tells which deeds it wants done, and shows lines."""

from lyinghouse.commands import is_line, order_in
from lyinghouse.deeds import DONE, MOST_ENTRIES, MOST_SIGNS, is_change
from lyinghouse.errors import BadAnswer, BadLine, Busy, NotBusy
from lyinghouse.kinds import is_integer
from lyinghouse.plain import MOST_PARTS, is_path, parts_of
from lyinghouse.values import is_value

MOST_DEEDS = 1000
REASONS = ("root", "file", "missing", "taken", "full", "folder", "beyond", "long", "inside", "used")


class Hunt:
    """How far "find" has come: what it shows, and the folders among that which it has not listed.

    The one that it listed last, or is to list, is at the place at; of the names in it that were looked at so many are
    shown, and names are those that are still to be looked at. many is how many deeds it has asked for.
    """

    def __init__(self, path):
        self.shown = [path]
        self.unlisted = {}
        self.at = 0
        self.below = 0
        self.names = []
        self.many = 1

    def copy(self):
        """A hunt that stands alike, and goes on by itself."""
        other = Hunt(self.shown[0])
        other.shown, other.unlisted, other.names = list(self.shown), dict(self.unlisted), list(self.names)
        other.at, other.below, other.many = self.at, self.below, self.many
        return other

    def hear(self, deed, answer):
        """Notes what the answer to the deed tells."""
        path = deed[1]
        if deed[0] == "list":
            # Names of a folder whose path has all parts that a path can have would tell no paths.
            has_names = answer[0] == "names" and len(parts_of(path)) < MOST_PARTS
            self.names = list(answer[1]) if has_names else []
            self.below = 0
        elif answer[0] != "no":
            self._show(path)
            if answer[0] == "folder":
                self.unlisted[path] = True

    def next_deed(self):
        """The deed that is wanted now; None if all is shown."""
        if len(self.names) > 0:
            above = self.shown[self.at]
            name = self.names.pop(0)
            return "look", f"/{name}" if above == "/" else f"{above}/{name}"
        while self.at < len(self.shown) and self.shown[self.at] not in self.unlisted:
            self.at += 1
        if self.at == len(self.shown):
            return None
        del self.unlisted[self.shown[self.at]]
        return "list", self.shown[self.at]

    def _show(self, path):
        """Shows the path directly below those that are shown of its folder already."""
        if path != self.shown[0]:
            self.below += 1
            self.shown.insert(self.at + self.below, path)


class Shell:
    """A shell: at first its place is the root, and no line is being worked through."""

    def __init__(self):
        self.place = "/"
        self.wants = None
        self._order = None
        self._hunt = None

    def line(self, text):
        """Begins to work a line through: the lines that it shows, or the deed that it wants."""
        if self.wants is not None:
            raise Busy(self.wants)
        if not is_line(text):
            raise BadLine(text)
        if text.strip(" ") == "":
            return "shows", ()
        order = order_in(self.place, text)
        if order.why != "":
            return "shows", (f"{order.command}: {order.why}",)
        deed = order.first_deed()
        if deed is None:
            return "shows", (self.place,)
        self._order = order
        self._hunt = Hunt(order.where[0])
        self.wants = deed
        return "wants", deed

    def hear(self, answer):
        """Goes on with the line, now that the deed that it wants was answered: the same as line."""
        if self.wants is None:
            raise NotBusy(answer)
        if not _is_answer(self.wants, answer):
            raise BadAnswer(answer)
        deed, lines = self._go_on(self.wants, answer)
        self.wants = deed
        return ("shows", lines) if deed is None else ("wants", deed)

    def copy(self):
        """A shell that stands alike, and is changed by itself."""
        other = Shell()
        other.place, other.wants = self.place, self.wants
        other._order = self._order
        other._hunt = None if self._hunt is None else self._hunt.copy()
        return other

    def _go_on(self, deed, answer):
        """The deed that is wanted now, and (); or None, and the lines that are shown."""
        command = self._order.command
        if command == "find" and not (self._hunt.many == 1 and answer[0] == "no"):
            return self._hunt_on(deed, answer)
        if command == "add" and deed[0] == "look":
            return self._add(answer)
        if answer[0] == "no":
            return None, (f"{command}: {answer[1]}",)
        if command == "cp" and deed[0] == "read":
            return ("write", self._order.where[1], answer[1]), ()
        if command == "cd":
            return None, self._enter(answer)
        return None, _shown(answer)

    def _enter(self, answer):
        if answer[0] == "file":
            return ("cd: file",)
        self.place = self._order.where[0]
        return ()

    def _add(self, answer):
        path, text = self._order.where[0], self._order.signs
        if answer[0] == "file":
            return ("put", path, answer[1], text), ()
        if answer == ("no", "missing"):
            return ("write", path, text), ()
        return None, ("add: folder" if answer[0] == "folder" else f"add: {answer[1]}",)

    def _hunt_on(self, deed, answer):
        hunt = self._hunt
        hunt.hear(deed, answer)
        wanted = hunt.next_deed()
        if wanted is None:
            return None, tuple(hunt.shown)
        if hunt.many == MOST_DEEDS:
            return None, (*hunt.shown, "find: many")
        hunt.many += 1
        return wanted, ()


def typed(shell, tree, text):
    """The lines that are shown of this line, if its deeds are done with this tree."""
    told = shell.line(text)
    while told[0] == "wants":
        told = shell.hear(tree.done(told[1]))
    return told[1]


def _shown(answer):
    """What is shown of an answer, if the command is none that does something else with it."""
    if answer[0] == "names":
        return answer[1]
    if answer[0] == "text":
        return tuple(answer[1].split("\n"))
    return () if answer == DONE else (" ".join([str(part) for part in answer]),)


def _is_answer(deed, value):
    """Whether any value has the form of an answer to this deed."""
    if not (is_value(value) and isinstance(value, tuple) and len(value) > 0):
        return False
    if value[0] == "no":
        return len(value) == 2 and value[1] in REASONS
    if is_change(deed):
        return value == DONE
    if deed[0] == "look":
        return _is_look(value)
    if len(value) != 2:
        return False
    if deed[0] == "list":
        return value[0] == "names" and _are_names(value[1])
    return value[0] == "text" and isinstance(value[1], str) and len(value[1]) <= MOST_SIGNS


def _is_look(value):
    many = {"folder": 2, "file": 3}
    if not (isinstance(value[0], str) and many.get(value[0], 0) == len(value)):
        return False
    return all([is_integer(part, 0, MOST_SIGNS) for part in value[1:]])


def _are_names(value):
    """Whether any value is an ascending tuple of entry names, not more than a tree has entries."""
    if not (isinstance(value, tuple) and len(value) <= MOST_ENTRIES):
        return False
    # An entry name is what alone makes a path, if it has no sign / in it.
    if not all([isinstance(name, str) and name != "" and "/" not in name and is_path(f"/{name}") for name in value]):
        return False
    return all([value[at] < value[at + 1] for at in range(len(value) - 1)])
