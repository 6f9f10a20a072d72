"""Lines of a shell, read: the command, its paths, and what else it needs."""

from lyinghouse.deeds import MOST_SIGNS
from lyinghouse.kinds import is_clean, number_in
from lyinghouse.plain import MOST_PARTS, is_path, parts_of, path_of

MOST_IN_LINE = 2500
# Of each command: how many words there are at least, and at most (None: as many as may be), the first one counted; how
# many of them tell paths at most; and the deed that it wants first, None if it wants none.
COMMANDS = {
    "pwd": (1, 1, 0, None),
    "cd": (2, 2, 1, "look"),
    "ls": (1, 2, 1, "list"),
    "cat": (2, 2, 1, "read"),
    "mkdir": (2, 2, 1, "make"),
    "rm": (2, 2, 1, "remove"),
    "mv": (3, 3, 2, "move"),
    "ln": (3, 3, 2, "link"),
    "write": (2, None, 1, "write"),
    "add": (2, None, 1, "look"),
    "cut": (3, 3, 1, "cut"),
    "cp": (3, 3, 2, "read"),
    "stat": (2, 2, 1, "look"),
    "find": (1, 2, 1, "look"),
}


class Order:
    """What a line orders: its command, the paths that it tells, a text, a number; why is the word why it cannot be."""

    def __init__(self, command):
        self.command = command
        self.where = ()
        self.signs = ""
        self.number = 0
        self.why = ""

    def first_deed(self):
        """The deed that is wanted first; None if none is."""
        word = COMMANDS[self.command][3]
        if word is None:
            return None
        if word in ("move", "link"):
            return (word, *self.where)
        if word == "write":
            return word, self.where[0], self.signs
        return (word, self.where[0], self.number) if word == "cut" else (word, self.where[0])


def is_line(value):
    """Whether any value is a line of a shell."""
    return isinstance(value, str) and len(value) <= MOST_IN_LINE and is_clean(value) and "\n" not in value


def order_in(place, line):
    """What a line with words orders, typed at a shell with this place."""
    words = [word for word in line.split(" ") if word != ""]
    order = Order(words[0])
    if words[0] not in COMMANDS:
        order.why = "unknown"
        return order
    fewest, most, many, _ = COMMANDS[words[0]]
    if len(words) < fewest or (most is not None and len(words) > most):
        order.why = "words"
        return order
    # Without a word for it, the place is the path.
    paths = [_path_told(place, word) for word in words[1:1 + many]] or [place]
    order.where = tuple(paths)
    order.number = number_in(words[2]) if words[0] == "cut" else 0
    order.signs = _text_behind(line, words) if words[0] in ("write", "add") else ""
    order.why = _why_not(order)
    return order


def _why_not(order):
    """The word why the order cannot be, if it has the right words; "" if it can be."""
    if None in order.where:
        return "path"
    if order.number is None or order.number > MOST_SIGNS:
        return "number"
    return "long" if len(order.signs) > MOST_SIGNS else ""


def _path_told(place, word):
    """The path to which the word leads from this place; None if it tells no path."""
    parts = [] if word.startswith("/") else list(parts_of(place))
    for part in word.split("/"):
        if part == "..":
            parts = parts[:-1]
        elif part not in ("", "."):
            parts = parts + [part]
            # A part has no sign / in it: so this is a path if it is an entry name.
            if not is_path(f"/{part}") or len(parts) > MOST_PARTS:
                return None
    return path_of(tuple(parts))


def _text_behind(line, words):
    """What stands behind the one blank behind the first two words of the line."""
    rest = line.lstrip(" ")[len(words[0]):].lstrip(" ")
    return rest[len(words[1]) + 1:]
