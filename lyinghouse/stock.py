"""What a house keeps, and must know again behind a fall, as rows of its keep.

The first row tells the names of the desks. Each further one tells a change: a statement that is kept from then on, with
the seals of the blocks that came with it, or who waits from then on.
"""

from lyinghouse.bag import Bag
from lyinghouse.errors import OtherBody
from lyinghouse.kinds import is_names
from lyinghouse.messages import is_block_seal, is_statement
from lyinghouse.rows import no_counts
from lyinghouse.trees import tree_blocks

WORD = "house"
OF_STATEMENT = "kept"
OF_WAITING = "waits"


class Stock:
    """What a house keeps: at first no statement, and nobody waits. Its bag is never changed, another one is taken."""

    def __init__(self, names):
        self.names = names
        self.newest = None
        self.bag = Bag()
        self.waiting = ()

    def newest_counts(self):
        """The counts of the newest statement."""
        return no_counts(self.names) if self.newest is None else self.newest[2][1]

    def without(self, name):
        """Who waits if this desk does not."""
        return tuple([other for other in self.waiting if other != name])


def first_row(names):
    """The row that tells of a house that keeps nothing."""
    return WORD, names


def statement_row(statement, seals):
    """The row that tells that this statement is kept from now on, with these seals of blocks."""
    return OF_STATEMENT, statement, seals


def waiting_row(waiting):
    """The row that tells who waits from now on."""
    return OF_WAITING, waiting


def behind_row(stock, row):
    """What is kept behind a row that tells a change; None if it is no such row."""
    if not (isinstance(row, tuple) and len(row) > 1):
        return None
    if row[0] == OF_WAITING and len(row) == 2:
        return _behind_waiting(stock, row[1])
    if row[0] == OF_STATEMENT and len(row) == 3:
        return _behind_statement(stock, row[1], row[2])
    return None


def stock_in(rows):
    """What is kept by the house whose keep has these rows; None if there is no such house."""
    head = rows[0] if len(rows) > 0 else None
    if not (isinstance(head, tuple) and len(head) == 2 and head[0] == WORD and is_names(head[1])):
        return None
    stock = Stock(head[1])
    for row in rows[1:]:
        stock = behind_row(stock, row)
        if stock is None:
            return None
    return stock


def packed_stock(stock):
    """What is kept of this if nothing is kept but what the newest tree needs, and who waits."""
    if stock.newest is None:
        return stock
    packed = Stock(stock.names)
    packed.newest, packed.waiting = stock.newest, stock.waiting
    for block in tree_blocks(stock.bag, stock.newest[2][3]):
        packed.bag.take(stock.bag.seal_of(block))
    return packed


def rows_of(stock):
    """The fewest rows that tell of this."""
    rows = [first_row(stock.names)]
    if stock.newest is not None:
        seals = tuple([stock.bag.seal_of(block) for block in stock.bag.blocks])
        rows.append(statement_row(stock.newest, seals))
    if stock.waiting != ():
        rows.append(waiting_row(stock.waiting))
    return tuple(rows)


def _behind_waiting(stock, waiting):
    if not (isinstance(waiting, tuple) and len(waiting) <= len(stock.names)):
        return None
    if [waiting.count(name) for name in waiting if name in stock.names] != [1] * len(waiting):
        return None
    behind = Stock(stock.names)
    behind.newest, behind.bag, behind.waiting = stock.newest, stock.bag, waiting
    return behind


def _behind_statement(stock, statement, seals):
    if not (is_statement(stock.names, statement) and isinstance(seals, tuple)):
        return None
    if not all([is_block_seal(stock.names, seal) for seal in seals]):
        return None
    behind = Stock(stock.names)
    behind.newest, behind.bag, behind.waiting = statement, stock.bag.copy(), stock.without(statement[1])
    try:
        for seal in seals:
            behind.bag.take(seal)
    except OtherBody:
        return None
    return behind
