"""What desks say to a house, and what an honest one answers.

- To NEWEST it answers ("newest", statement): the one that it keeps, None if there is none.
- To ("block", name, number) it answers ("block", seal), the seal of this block, or NO_BLOCK if it does not hold it.
- To ("turn", counts) it answers ("turn", statement), the one that it keeps, if the desk has the turn, WAIT if it has
  to wait for it. If what the house keeps is somewhere below these counts, it answers as to NEWEST instead, and the
  desk does not come to wait there.
- To FREE it answers FREED: the desk is not among those who wait, or have the turn, any more.
- To ("keep", statement, blocks) it answers KEPT if it keeps this statement now, or one that stands on it, and WAIT if
  another desk has the turn. If what it keeps goes another way, it answers as to NEWEST. The blocks are all those that
  the desk has made for this statement.

Statements and blocks are said as seals. No tuple here begins with a name, or with the names of desks: a desk may be
called seal, and nobody must seem to make seals of others.
"""

from lyinghouse.kinds import are_counts, is_block
from lyinghouse.plain import is_deed
from lyinghouse.values import is_seal

NEWEST = ("newest",)
FREE = ("free",)
FREED = ("freed",)
KEPT = ("kept",)
WAIT = ("wait",)
NO_BLOCK = ("block", None)
ON_NEWEST = "newest"
ON_BLOCK = "block"
ON_TURN = "turn"
ON_FREE = "free"
ON_KEEP = "keep"


def statement_seal(name, counts, deed, root):
    """The statement of the desk with this name: the deed, the counts with it, and the root of the tree behind it."""
    return ("seal", name, ("statement", counts, deed, root))


def is_statement(names, value):
    """Whether any value is a statement of one of the desks with these names."""
    if not (is_seal(value) and value[1] in names and isinstance(value[2], tuple) and len(value[2]) == 4):
        return False
    word, counts, deed, root = value[2]
    if not (word == "statement" and are_counts(counts, len(names)) and is_deed(deed) and is_block(root)):
        return False
    return counts[names.index(value[1])] > 0


def base_told(names, word, answer):
    """The counts and the root that are told behind this word; None if they are not.

    Where no statement is kept, the counts are all 0, and the root is None.
    """
    if not (isinstance(answer, tuple) and len(answer) == 2 and answer[0] == word):
        return None
    if answer[1] is None:
        return (0,) * len(names), None
    if not is_statement(names, answer[1]):
        return None
    _, counts, _, root = answer[1][2]
    return counts, root


def block_told(block, answer):
    """The seal of the block with this name, if the answer tells it; None if it does not."""
    if not (isinstance(answer, tuple) and len(answer) == 2 and answer[0] == ON_BLOCK and is_seal(answer[1])):
        return None
    _, name, told = answer[1]
    if not (isinstance(told, tuple) and len(told) == 3 and told[0] == "block"):
        return None
    return answer[1] if (name, told[1]) == block else None
