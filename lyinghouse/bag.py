"""Bags of blocks. A block is named by who made it and which one it is, and is never changed."""

from lyinghouse.checks import check_name, check_number
from lyinghouse.errors import BadSeal, BadValue, NoBlock, OtherBody
from lyinghouse.kinds import GREATEST_NUMBER, is_integer
from lyinghouse.values import is_seal, is_value


class Bag:
    """A bag of blocks: at first without any."""

    def __init__(self):
        self._bodies = {}
        self._numbers = {}

    def __len__(self):
        return len(self._bodies)

    def __contains__(self, value):
        return _is_pair(value) and value in self._bodies

    @property
    def blocks(self):
        """The names of the blocks that the bag holds."""
        return tuple(sorted(list(self._bodies)))

    def next_number(self, name):
        """The number of the next block that this name makes here."""
        check_name(name)
        return self._numbers.get(name, 0)

    def skip_to(self, name, number):
        """From now on the next number of this name is at least this one."""
        check_number(number, self.next_number(name), GREATEST_NUMBER)
        self._numbers[name] = number

    def add(self, name, body):
        """Adds the next block of this name, and returns the block's name."""
        block = (name, self.next_number(name))
        if not is_value(_sealed(block, body)):
            raise BadValue(body)
        self._hold(block, body)
        return block

    def take(self, seal):
        """Adds the block of this seal, if it is not there, and returns its name."""
        if not _is_block_seal(seal):
            raise BadSeal(seal)
        _, name, (_, number, body) = seal
        block = (name, number)
        if block in self._bodies and self._bodies[block] != body:
            raise OtherBody(block)
        self._hold(block, body)
        return block

    def body(self, block):
        """The body of a block that the bag holds."""
        self._check_held(block)
        return self._bodies[block]

    def seal_of(self, block):
        """The seal of a block that the bag holds."""
        return _sealed(block, self.body(block))

    def let_go(self, block):
        """The bag no longer holds this block."""
        self._check_held(block)
        del self._bodies[block]

    def copy(self):
        """A bag that holds the same, and changes by itself."""
        other = Bag()
        other._bodies = {block: body for block, body in self._bodies.items()}
        other._numbers = dict(self._numbers)
        return other

    def _hold(self, block, body):
        name, number = block
        self._bodies[block] = body
        self._numbers[name] = max(self._numbers.get(name, 0), number + 1)

    def _check_held(self, block):
        if not (_is_pair(block) and block in self._bodies):
            raise NoBlock(block)


def _is_pair(value):
    """Whether any value can be looked for among names of blocks: blocks are looked for all the time."""
    if not (isinstance(value, tuple) and len(value) == 2 and isinstance(value[0], str)):
        return False
    return isinstance(value[1], int) and not isinstance(value[1], bool)


def _sealed(block, body):
    return ("seal", block[0], ("block", block[1], body))


def _is_block_seal(value):
    if not is_seal(value):
        return False
    told = value[2]
    if not (isinstance(told, tuple) and len(told) == 3 and told[0] == "block"):
        return False
    return is_integer(told[1], 0, GREATEST_NUMBER)
