"""Bags that lack blocks: what a call needs, and that a call that raises leaves the bag as it was."""

from lyinghouse.bag import Bag
from lyinghouse.errors import NoBlock

NAMES = ("ann", "bob", "cy", "dan")


def state(bag):
    """All that can be seen of a bag."""
    return [(block, bag.body(block)) for block in bag.blocks], [bag.next_number(name) for name in NAMES]


def sizes(bag):
    """What is quickly seen of a bag: blocks are never changed, so this shows any block that was added."""
    return len(bag), [bag.next_number(name) for name in NAMES]


def emptied(bag):
    """A bag without blocks in which the next blocks have the same numbers."""
    other = Bag()
    for name in NAMES:
        other.skip_to(name, bag.next_number(name))
    return other


def fetched(call, bag):
    """What the call tells in a bag that is given each block that it asks for; the blocks that it was given."""
    poor, given = emptied(bag), []
    while True:
        before = sizes(poor)
        try:
            return call(poor), given
        except NoBlock as error:
            assert sizes(poor) == before, "a call that raised has changed the bag"
            assert error.value in bag and error.value not in given, error.value
            given.append(error.value)
            poor.take(bag.seal_of(error.value))


def needed(call, bag):
    """The blocks for which the call raises NoBlock if the bag holds all others."""
    found = []
    for block in bag.blocks:
        poor = bag.copy()
        poor.let_go(block)
        before = state(poor)
        try:
            call(poor)
        except NoBlock as error:
            assert error.value == block and state(poor) == before
            found.append(block)
    return found


def added(call, bag):
    """What the call tells, and the names of the blocks that it adds."""
    first, many = {name: bag.next_number(name) for name in NAMES}, len(bag)
    told = call(bag)
    new = [(name, number) for name in NAMES for number in range(first[name], bag.next_number(name))]
    assert len(new) == len(bag) - many and all(block in bag for block in new)
    return told, new


def figures(number):
    """How many figures the number has in base two."""
    return len(bin(number)) - 2 if number > 0 else 0


def strings_in(body):
    """All strings in a body."""
    if isinstance(body, tuple):
        return [found for part in body for found in strings_in(part)]
    return [body] if isinstance(body, str) else []


def parts_in(body):
    """How many parts that are no tuples a body has, at whatever depth."""
    return sum(parts_in(part) for part in body) if isinstance(body, tuple) else 1
