"""What desks say to a house, and what an honest one answers.

- To NEWEST it answers ("newest", statement): the one that it keeps, None if there is none.
- To ("block", name, number) it answers ("block", seal), the seal of this block, or NO_BLOCK if it does not hold it.
- To ("turn", counts, turn) it answers ("turn", statement), the one that it keeps, if the desk has the turn, WAIT if it
  has to wait for it. If what the house keeps is somewhere below these counts, it answers as to NEWEST instead, and the
  desk does not come to wait there; so, too, if what the desk asked for is over: if the house keeps a later statement
  of this desk, or has heard of a later number in the place of turn.
- To ("free", turn) it answers FREED: whatever the desk asked for with a number below turn is over, and it is not among
  those who wait, or have the turn, by that.
- To ("keep", statement, blocks) it answers KEPT if it keeps this statement now, or one that stands on it, and WAIT if
  another desk has the turn. If what it keeps goes another way, it answers as to NEWEST. The blocks are all those that
  the desk has made for this statement.
- To all else it answers WAIT, and nothing changes.

Statements and blocks are said as seals. No tuple here begins with a name, or with the names of desks: a desk may be
called seal, and nobody must seem to make seals of others.
"""

from lyinghouse.kinds import GREATEST_NUMBER, are_counts, is_block, is_integer
from lyinghouse.plain import is_deed
from lyinghouse.values import has_seal_form

NEWEST = ("newest",)
FREED = ("freed",)
KEPT = ("kept",)
WAIT = ("wait",)
NO_BLOCK = ("block", None)
ON_NEWEST = "newest"
ON_BLOCK = "block"
ON_TURN = "turn"
ON_FREE = "free"
ON_KEEP = "keep"


def statement_seal(name, counts, deed, root):
    """The statement of the desk with this name: the deed, the counts with it, and the root of the tree behind it."""
    return ("seal", name, ("statement", counts, deed, root))


def is_statement(names, value):
    """Whether what is known to be a value is a statement of one of the desks with these names."""
    if not (has_seal_form(value) and value[1] in names and isinstance(value[2], tuple) and len(value[2]) == 4):
        return False
    word, counts, deed, root = value[2]
    if not (word == "statement" and are_counts(counts, len(names)) and is_deed(deed) and is_block(root)):
        return False
    return counts[names.index(value[1])] > 0


def is_block_seal(names, value):
    """Whether what is known to be a value is the seal of a block of one of the desks with these names."""
    if not (has_seal_form(value) and value[1] in names and isinstance(value[2], tuple) and len(value[2]) == 3):
        return False
    word, number, _ = value[2]
    return word == "block" and is_block((value[1], number))


def base_told(names, word, answer):
    """The counts and the root that are told behind this word; None if they are not.

    Where no statement is kept, the counts are all 0, and the root is None.
    """
    if not (isinstance(answer, tuple) and len(answer) == 2 and answer[0] == word):
        return None
    if answer[1] is None:
        return (0,) * len(names), None
    if not is_statement(names, answer[1]):
        return None
    _, counts, _, root = answer[1][2]
    return counts, root


def block_told(block, answer):
    """The seal of the block with this name, if the answer tells it; None if it does not."""
    if not (isinstance(answer, tuple) and len(answer) == 2 and answer[0] == ON_BLOCK):
        return None
    name, number = block
    if not (is_block_seal((name,), answer[1]) and answer[1][2][1] == number):
        return None
    return answer[1]


def block_asked(message):
    """The name of the block that the message asks for; None if it asks for none."""
    if not (isinstance(message, tuple) and len(message) == 3 and message[0] == ON_BLOCK):
        return None
    block = message[1:]
    return block if is_block(block) else None


def turn_asked(names, message):
    """The counts and the number with which the message asks for a turn; None if it asks for none."""
    if not (isinstance(message, tuple) and len(message) == 3 and message[0] == ON_TURN):
        return None
    _, counts, turn = message
    return (counts, turn) if are_counts(counts, len(names)) and is_integer(turn, 0, GREATEST_NUMBER) else None


def turn_freed(message):
    """The number below which all that the desk asked for is over, as the message tells; None if it tells none."""
    if not (isinstance(message, tuple) and len(message) == 2 and message[0] == ON_FREE):
        return None
    return message[1] if is_integer(message[1], 0, GREATEST_NUMBER) else None


def statement_said(names, name, message):
    """The statement of this desk that the message says, and the seals of its blocks; None if it says none."""
    if not (isinstance(message, tuple) and len(message) == 3 and message[0] == ON_KEEP):
        return None
    _, statement, seals = message
    if not (is_statement(names, statement) and statement[1] == name and isinstance(seals, tuple)):
        return None
    return (statement, seals) if all([is_block_seal(names, seal) for seal in seals]) else None
