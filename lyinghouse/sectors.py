"""How rows of values lie in sectors.

A write that is cut leaves the beginning of the new sector text, and behind that what stood there before. A *head*
begins and ends with the same stamp, one that is not the last sign of what stood in its sector: so what a cut leaves
of it begins and ends with unlike signs, and is no head. A tail begins and ends with two signs that are no stamps:
whatever is cut, what begins like a tail is no head.

Each head tells its generation. Behind the stamp stands what it is the head of: an area, or a value; then the
generation, and in the head of a value the length of its text, the first signs of which stand in the head, the others
in the tails behind it.
"""

from lyinghouse.discs import SECTOR
from lyinghouse.errors import BadText
from lyinghouse.values import read_value

STAMPS = ("0", "1")
OF_AREA = "a"
OF_VALUE = "v"
TAIL_FIRST = "t"
TAIL_LAST = "."
# Where the generation of a head begins, and what stands behind it; how many signs of a text a sector holds.
AT_GENERATION = 2
AT_LENGTH = 14
AT_SIGNS = 22
IN_HEAD = 41
IN_TAIL = 62


def many_tails(length):
    """How many tails the text of a value with so many signs needs."""
    return max(length - IN_HEAD + IN_TAIL - 1, 0) // IN_TAIL


def area_head(old, generation):
    """The head of an area, for a sector in which the old text stands."""
    return _stamped(old, f"{OF_AREA}{generation:012d}")


def value_head(old, generation, text):
    """The head of the value with this text."""
    return _stamped(old, f"{OF_VALUE}{generation:012d}{len(text):08d}{text[:IN_HEAD]}")


def tails_of(text):
    """The sector texts of the tails of the value with this text."""
    rests = [text[at:at + IN_TAIL] for at in range(IN_HEAD, len(text), IN_TAIL)]
    return [TAIL_FIRST + rest.ljust(IN_TAIL) + TAIL_LAST for rest in rests]


def generation_in(sector, kind):
    """The generation that a sector with a head of this kind tells; -1 if it has none."""
    figures = sector[AT_GENERATION:AT_LENGTH]
    is_head = sector[0] in STAMPS and sector[0] == sector[-1] and sector[1] == kind
    return int(figures) if is_head and _are_figures(figures) else -1


def latest_in(image):
    """The latest generation that any head in the image tells; 0 if there is none."""
    heads = [sector for sector in image if sector[0] in STAMPS]
    return max([0] + [generation_in(sector, kind) for sector in heads for kind in (OF_AREA, OF_VALUE)])


def value_at(sectors, at, end):
    """The value whose head stands at this place, and the place behind it; None if none is there ahead of the end."""
    figures = sectors[at][AT_LENGTH:AT_SIGNS]
    if not _are_figures(figures):
        return None
    length = int(figures)
    behind = at + 1 + many_tails(length)
    if behind > end:
        return None
    rests = [sector[1:-1] for sector in sectors[at + 1:behind]]
    text = (sectors[at][AT_SIGNS:-1] + "".join(rests))[:length]
    try:
        value = read_value(text)
    except BadText:
        return None
    return value, behind


def _stamped(old, told):
    stamp = STAMPS[1] if old[-1] == STAMPS[0] else STAMPS[0]
    return stamp + told.ljust(SECTOR - 2) + stamp


def _are_figures(signs):
    return signs.isascii() and signs.isdigit()
