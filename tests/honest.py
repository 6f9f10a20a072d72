"""A house for the tests of desks: it answers their messages as lyinghouse.messages tells, and lies in no disc."""

from lyinghouse.bag import Bag
from lyinghouse.messages import FREED, KEPT, NEWEST, WAIT, is_statement
from lyinghouse.trees import tree_blocks, tree_plain
from lyinghouse.values import all_seals, is_value


class HouseOfTests:

    def __init__(self, names):
        self.names = names
        self.statement = None
        self.bag = Bag()
        self.waiting = ()

    @property
    def counts(self):
        return (0,) * len(self.names) if self.statement is None else self.statement[2][1]

    def plain(self):
        return tree_plain(self.bag, self.statement[2][3])

    def copy(self):
        other = HouseOfTests(self.names)
        other.statement, other.bag, other.waiting = self.statement, self.bag.copy(), self.waiting
        return other

    def pack(self):
        needed = () if self.statement is None else tree_blocks(self.bag, self.statement[2][3])
        for block in self.bag.blocks:
            if block not in needed:
                self.bag.let_go(block)

    def hear(self, name, message):
        assert is_value(message) and name in self.names
        answer = self.answered(name, message)
        assert is_value(answer)
        return answer

    def answered(self, name, message):
        newest = ("newest", self.statement)
        if message == NEWEST:
            return newest
        if message[0] == "block":
            block = message[1:]
            return ("block", self.bag.seal_of(block) if block in self.bag else None)
        if message[0] == "turn":
            return self.turn(name, message[1], newest)
        if message == ("free",):
            self.waiting = tuple(other for other in self.waiting if other != name)
            return FREED
        assert message[0] == "keep" and is_statement(self.names, message[1]), message
        return self.kept(name, message[1], message[2], newest)

    def turn(self, name, counts, newest):
        if any(mine < its for mine, its in zip(self.counts, counts)):
            return newest
        if name not in self.waiting:
            self.waiting += (name,)
        return ("turn", self.statement) if self.waiting[0] == name else WAIT

    def kept(self, name, statement, blocks, newest):
        own = self.names.index(name)
        assert statement[1] == name
        counts = statement[2][1]
        if self.counts[own] >= counts[own]:
            return KEPT
        if counts != (*self.counts[:own], self.counts[own] + 1, *self.counts[own + 1:]):
            return newest
        if self.waiting[:1] not in ((), (name,)):
            return WAIT
        for seal in blocks:
            self.bag.take(seal)
        assert all(block in self.bag for block in tree_blocks(self.bag, statement[2][3]))
        self.statement = statement
        self.waiting = tuple(other for other in self.waiting if other != name)
        return KEPT


def work(desk, house, laps=3000):
    """Leads the desk to the house until its deed is done, or it waits: what hear told last."""
    message = desk.rest()
    for _ in range(laps):
        told = desk.hear(house.hear(desk.name, message))
        if told[0] != "say":
            return told
        message = told[1]
    raise AssertionError("it goes on and on")


def does(desk, house, deed):
    desk.ask(deed)
    return work(desk, house)
