"""Honest houses in tests: what lies in them, and desks that are led to them."""

from lyinghouse.house import House
from lyinghouse.messages import NEWEST
from lyinghouse.stock import waiting_row
from lyinghouse.trees import tree_plain


def a_house(names, sectors=6000):
    return House(names, sectors)


def statement_of(house):
    """The statement that the house keeps."""
    return house.copy().hear(house.names[0], NEWEST)[1]


def bag_of(house):
    """The blocks that the house holds."""
    return house._stock.bag


def plain_of(house):
    """The tree behind the house's newest statement."""
    return tree_plain(bag_of(house), statement_of(house)[2][3])


def kept(house):
    """All that a house has to know again behind a fall."""
    bag, stock = bag_of(house), house._stock
    return house.names, house.counts, house.waiting, statement_of(house), stock.waiting, stock.over, [(block, bag.body(block)) for block in bag.blocks]


def let_wait(house, names):
    """Just these desks wait in the house from now on, as if they had asked for a turn there."""
    house._change(waiting_row(tuple((name, 0) for name in names), house._stock.over))
    assert house.waiting == names


def work(desk, house, laps=3000):
    """Leads the desk to the house until its deed is done, or it waits: what hear told last."""
    message = desk.rest()
    for _ in range(laps):
        told = desk.hear(house.hear(desk.name, message))
        if told[0] != "say":
            return told
        message = told[1]
    raise AssertionError("it goes on and on")


def does(desk, house, deed):
    desk.ask(deed)
    return work(desk, house)
