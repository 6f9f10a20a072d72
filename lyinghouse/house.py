"""An honest house: it keeps what desks make, and gives it out again."""

from lyinghouse.checks import check_number
from lyinghouse.discs import MOST_SECTORS
from lyinghouse.errors import BadImage, BadNames, BadValue, NoBlock, NoDesk, TooFull
from lyinghouse.keeps import Keep, keep_again
from lyinghouse.kinds import is_names
from lyinghouse.messages import (
    FREED, KEPT, NEWEST, NO_BLOCK, ON_BLOCK, ON_NEWEST, ON_TURN, WAIT, block_asked, statement_said, turn_asked,
    turn_freed,
)
from lyinghouse.rows import sides_of, with_one_more
from lyinghouse.stock import (
    Stock, asking_row, behind_row, first_row, freeing_row, packed_stock, rows_of, statement_row, stock_in,
)
from lyinghouse.trees import tree_blocks
from lyinghouse.values import all_seals, is_value

FEWEST_SECTORS = 1000


class House:
    """A house: at first it has heard nothing."""

    def __init__(self, names, sectors):
        if not is_names(names):
            raise BadNames(names)
        check_number(sectors, FEWEST_SECTORS, MOST_SECTORS)
        self.names = names
        keep = Keep(sectors)
        keep.add(first_row(names))
        self.stand_on(keep, Stock(names))

    def hear(self, name, message):
        """What the house answers to this message of the desk."""
        if not (isinstance(name, str) and name in self.names):
            raise NoDesk(name)
        if not is_value(message):
            raise BadValue(message)
        self._did = ()
        answer = self._answer_to(name, message)
        self.steps = self._did
        return answer

    def copy(self):
        """A house that stands alike, on a disc of its own."""
        other = House(self.names, self._keep.sectors)
        other.stand_on(self._keep.copy(), self._stock)
        other.steps = self.steps
        return other

    def pack(self):
        """The disc is laid anew, with what the house needs alone, if there is room for that."""
        self._did = ()
        try:
            self._pack_as(self._stock)
        except TooFull:
            self._did = ()
        self.steps = self._did

    def stand_on(self, keep, stock):
        """Stands as what lies in the keep tells."""
        self._keep = keep
        self._did = keep.steps
        self._show(stock)
        self.steps = self._did

    def _show(self, stock):
        self._stock = stock
        self.counts = stock.newest_counts()
        self.waiting = stock.names_waiting()
        self.image = self._keep.image

    def _change(self, row):
        """Stands as behind this row, once it lies on the disc. Whoever calls this changes nothing ahead of it."""
        stock = behind_row(self._stock, row)
        try:
            self._keep.add(row)
        except TooFull:
            self._pack_as(stock)
            return
        self._did = self._keep.steps
        self._show(stock)

    def _pack_as(self, stock):
        packed = packed_stock(stock)
        self._keep.pack(rows_of(packed))
        self._did = self._keep.steps
        self._show(packed)

    def _answer_to(self, name, message):
        if any([seal[1] not in self.names for seal in all_seals(message)]):
            return WAIT
        if message == NEWEST:
            return self._newest()
        freed = turn_freed(message)
        if freed is not None:
            return self._set_free(name, freed)
        block = block_asked(message)
        if block is not None:
            return self._give(block)
        asked = turn_asked(self.names, message)
        if asked is not None:
            return self._let_wait(name, asked)
        said = statement_said(self.names, name, message)
        return WAIT if said is None else self._take(name, said)

    def _newest(self):
        return ON_NEWEST, self._stock.newest

    def _set_free(self, name, turn):
        if turn > self._stock.over_for(name):
            self._change(freeing_row(self._stock, name, turn))
        return FREED

    def _give(self, block):
        bag = self._stock.bag
        return (ON_BLOCK, bag.seal_of(block)) if block in bag else NO_BLOCK

    def _let_wait(self, name, asked):
        """The desk comes to wait for the turn, if the house has all that the desk knows of, and this is not over."""
        counts, turn = asked
        own = self.names.index(name)
        has_all = sides_of(self.counts, counts) in ("alike", "ahead")
        waits = self._stock.asked_by(name)
        if not has_all or self.counts[own] > counts[own] or turn < max(self._stock.over_for(name), waits or 0):
            return self._newest()
        if waits != turn:
            self._change(asking_row(self._stock, name, turn))
        return (ON_TURN, self._stock.newest) if self.waiting[0] == name else WAIT

    def _take(self, name, said):
        """The statement is kept from now on, if it stands on the newest one, and nobody else has the turn."""
        statement, seals = said
        own = self.names.index(name)
        counts = statement[2][1]
        if self.counts[own] >= counts[own]:
            return KEPT
        if counts != with_one_more(self.counts, own):
            return self._newest()
        if self.waiting[:1] not in ((), (name,)):
            return WAIT
        new = self._new_seals(statement, seals)
        if new is None:
            return WAIT
        self._change(statement_row(statement, new))
        return KEPT

    def _new_seals(self, statement, seals):
        """Those of these seals of blocks that the statement's tree needs anew; None if it needs others, too."""
        old = self._stock.bag
        behind = behind_row(self._stock, statement_row(statement, seals))
        try:
            needed = () if behind is None else tree_blocks(behind.bag, statement[2][3])
        except NoBlock:
            needed = ()
        new = tuple([behind.bag.seal_of(block) for block in needed if block not in old])
        return None if needed == () else new


def house_again(image):
    """The house that comes back from this image."""
    try:
        keep = keep_again(image)
    except BadImage:
        raise BadImage(None) from None
    stock = stock_in(keep.rows)
    if stock is None or keep.sectors < FEWEST_SECTORS:
        raise BadImage(None)
    house = House(stock.names, keep.sectors)
    house.stand_on(keep, stock)
    return house
