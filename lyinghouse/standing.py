"""How a desk stands: all that it must know again behind a fall, as one row of its keep."""

from lyinghouse.kinds import GREATEST_NUMBER, are_counts, is_block, is_integer, is_names
from lyinghouse.messages import statement_seal
from lyinghouse.plain import is_deed
from lyinghouse.rows import no_counts

WORD = "desk"
PARTS = 11


class Standing:
    """How a desk stands: at first it has made nothing, heard of nothing, and no deed is open."""

    def __init__(self, name, names):
        self.name = name
        self.names = names
        self.counts = no_counts(names)
        # What it heard of in meetings: it goes over to nothing that is somewhere below.
        self.floor = no_counts(names)
        # The number of its next block: those below may have been said.
        self.number = 0
        # The number with which it asks for a turn: whatever was asked for with a lesser one is over.
        self.turn = 0
        self.doing = None
        self.made = None
        # Of a statement that is still to be said: its root, and the bodies of its blocks, the newest ones.
        self.unsaid = None
        self.is_cheated = False

    def copy(self):
        """How a desk stands that stands alike."""
        other = Standing(self.name, self.names)
        other.counts, other.floor = self.counts, self.floor
        other.number, other.turn = self.number, self.turn
        other.doing, other.made, other.unsaid = self.doing, self.made, self.unsaid
        other.is_cheated = self.is_cheated
        return other

    def own(self):
        """The place of its count in counts."""
        return self.names.index(self.name)

    def statement(self):
        """The statement that is still to be said."""
        _, counts, deed = self.made
        return statement_seal(self.name, counts, deed, self.unsaid[0])

    def block_seals(self):
        """The seals of the blocks that are to be said with it."""
        first = self.number - len(self.unsaid[1])
        return tuple([("seal", self.name, ("block", first + at, body)) for at, body in enumerate(self.unsaid[1])])

    def row(self):
        """The row that tells how the desk stands."""
        cheated = 1 if self.is_cheated else 0
        desk = (WORD, self.name, self.names, self.counts, self.floor, self.number, self.turn)
        return (*desk, self.doing, self.made, self.unsaid, cheated)


def standing_in(row):
    """How the desk stands that the row tells of; None if it is no such row."""
    if not (isinstance(row, tuple) and len(row) == PARTS and row[0] == WORD):
        return None
    _, name, names, counts, floor, number, turn, doing, made, unsaid, cheated = row
    if not (is_names(names) and isinstance(name, str) and name in names and cheated in (0, 1)):
        return None
    standing = Standing(name, names)
    standing.counts, standing.floor, standing.number, standing.turn = counts, floor, number, turn
    standing.doing, standing.made, standing.unsaid = doing, made, unsaid
    standing.is_cheated = cheated == 1
    return standing if _can_be(standing) else None


def _can_be(standing):
    many = len(standing.names)
    if not (are_counts(standing.counts, many) and are_counts(standing.floor, many)):
        return False
    if not (is_integer(standing.number, 0, GREATEST_NUMBER) and is_integer(standing.turn, 0, GREATEST_NUMBER)):
        return False
    if not (standing.doing is None or is_deed(standing.doing) and not standing.is_cheated):
        return False
    return _can_have_made(standing) and _can_be_unsaid(standing)


def _can_have_made(standing):
    own = standing.own()
    if standing.made is None:
        return standing.counts[own] == 0
    if not (isinstance(standing.made, tuple) and len(standing.made) == 3):
        return False
    number, counts, deed = standing.made
    if not (is_integer(number, 1, standing.counts[own]) and are_counts(counts, len(standing.names)) and is_deed(deed)):
        return False
    return number == counts[own] == standing.counts[own]


def _can_be_unsaid(standing):
    if standing.unsaid is None:
        return True
    if standing.made is None or standing.doing != standing.made[2]:
        return False
    if not (isinstance(standing.unsaid, tuple) and len(standing.unsaid) == 2):
        return False
    root, bodies = standing.unsaid
    return is_block(root) and isinstance(bodies, tuple) and len(bodies) <= standing.number
