"""What a house keeps, and must know again behind a fall, as rows of its keep.

The first row tells the names of the desks. Each further one tells a change: a statement that is kept from then on, with
the seals of the blocks that came with it, or who waits from then on.

Who waits is told by pairs of a name and a number, the one with which the desk asked for the turn; what is over, by a
number for each of the names: all that this desk asked for with lesser numbers.
"""

from lyinghouse.bag import Bag
from lyinghouse.errors import OtherBody
from lyinghouse.kinds import GREATEST_NUMBER, is_integer, is_names
from lyinghouse.messages import is_block_seal, is_statement
from lyinghouse.rows import no_counts
from lyinghouse.trees import tree_blocks

WORD = "house"
OF_STATEMENT = "kept"
OF_WAITING = "waits"


class Stock:
    """What a house keeps: at first no statement, and nobody waits. Its bag is never changed, another one is taken."""

    def __init__(self, names):
        self.names = names
        self.newest = None
        self.bag = Bag()
        self.waiting = ()
        self.over = (0,) * len(names)

    def newest_counts(self):
        """The counts of the newest statement."""
        return no_counts(self.names) if self.newest is None else self.newest[2][1]

    def names_waiting(self):
        """The names of those who wait."""
        return tuple([name for name, _ in self.waiting])

    def asked_by(self, name):
        """The number with which the desk asked for the turn for which it waits; None if it does not wait."""
        for other, turn in self.waiting:
            if other == name:
                return turn
        return None

    def over_for(self, name):
        """The number below which all that the desk asked for is over."""
        return self.over[self.names.index(name)]


def first_row(names):
    """The row that tells of a house that keeps nothing."""
    return WORD, names


def statement_row(statement, seals):
    """The row that tells that this statement is kept from now on, with these seals of blocks."""
    return OF_STATEMENT, statement, seals


def waiting_row(waiting, over):
    """The row that tells who waits, and what is over, from now on."""
    return OF_WAITING, waiting, over


def asking_row(stock, name, turn):
    """The row that tells that the desk waits for a turn with this number: at the end, if it did not wait."""
    if stock.asked_by(name) is None:
        return waiting_row((*stock.waiting, (name, turn)), stock.over)
    return waiting_row(tuple([(other, turn if other == name else its) for other, its in stock.waiting]), stock.over)


def freeing_row(stock, name, turn):
    """The row that tells that all is over that the desk asked for with a number below this one."""
    waiting = tuple([(other, its) for other, its in stock.waiting if other != name or its >= turn])
    over = tuple([max(its, turn) if other == name else its for other, its in zip(stock.names, stock.over)])
    return waiting_row(waiting, over)


def behind_row(stock, row):
    """What is kept behind a row that tells a change; None if it is no such row."""
    if not (isinstance(row, tuple) and len(row) == 3):
        return None
    if row[0] == OF_WAITING:
        return _behind_waiting(stock, row[1], row[2])
    return _behind_statement(stock, row[1], row[2]) if row[0] == OF_STATEMENT else None


def stock_in(rows):
    """What is kept by the house whose keep has these rows; None if there is no such house."""
    head = rows[0] if len(rows) > 0 else None
    if not (isinstance(head, tuple) and len(head) == 2 and head[0] == WORD and is_names(head[1])):
        return None
    stock = Stock(head[1])
    for row in rows[1:]:
        stock = behind_row(stock, row)
        if stock is None:
            return None
    return stock


def packed_stock(stock):
    """What is kept of this if nothing is kept but what the newest tree needs, and who waits."""
    if stock.newest is None:
        return stock
    packed = Stock(stock.names)
    packed.newest, packed.waiting, packed.over = stock.newest, stock.waiting, stock.over
    for block in tree_blocks(stock.bag, stock.newest[2][3]):
        packed.bag.take(stock.bag.seal_of(block))
    return packed


def rows_of(stock):
    """The fewest rows that tell of this."""
    rows = [first_row(stock.names)]
    if stock.newest is not None:
        seals = tuple([stock.bag.seal_of(block) for block in stock.bag.blocks])
        rows.append(statement_row(stock.newest, seals))
    rows.append(waiting_row(stock.waiting, stock.over))
    return tuple(rows)


def _behind_waiting(stock, waiting, over):
    if not (isinstance(waiting, tuple) and all([_is_asking(stock.names, part) for part in waiting])):
        return None
    asking = [name for name, _ in waiting]
    if len(set(asking)) < len(asking) or not _are_turns(over, len(stock.names)):
        return None
    behind = Stock(stock.names)
    behind.newest, behind.bag, behind.waiting, behind.over = stock.newest, stock.bag, waiting, over
    return behind


def _behind_statement(stock, statement, seals):
    if not (is_statement(stock.names, statement) and isinstance(seals, tuple)):
        return None
    if not all([is_block_seal(stock.names, seal) for seal in seals]):
        return None
    behind = Stock(stock.names)
    behind.newest, behind.bag, behind.over = statement, stock.bag.copy(), stock.over
    behind.waiting = tuple([part for part in stock.waiting if part[0] != statement[1]])
    try:
        for seal in seals:
            behind.bag.take(seal)
    except OtherBody:
        return None
    return behind


def _is_asking(names, value):
    """Whether any value is a name of these and a number with which the desk asked for a turn."""
    return isinstance(value, tuple) and len(value) == 2 and value[0] in names and _are_turns(value[1:], 1)


def _are_turns(value, many):
    if not (isinstance(value, tuple) and len(value) == many):
        return False
    return all([is_integer(part, 0, GREATEST_NUMBER) for part in value])
