"""Nodes of maps, as plain trees of many ways in which all leaves lie at one depth.

A node is told by a reference: the name of its block, or a draft of it. Its body is (height, rows). A leaf has
the height 0, and the rows (key, value) of the map that lie there; the rows of any other node are (key, size,
ref) for each node below it: its first key, how many keys lie in it, and the reference to it. All nodes but the
topmost one have from LEAST to MOST rows. The map without keys is told by None.
"""

from lyinghouse.drafts import Draft, body_of
from lyinghouse.errors import BadKey, BadMap, NoKey

LEAST = 8
MOST = 16


def node_of(bag, ref):
    """The height and the rows of a node."""
    body = body_of(bag, ref)
    if not isinstance(body, tuple):
        raise BadMap(ref)
    return body


def row_in(bag, ref, key):
    """The row (key, value) of the map; None if it does not have this key."""
    while ref is not None:
        height, rows = node_of(bag, ref)
        at = _place_of(rows, key)
        if at < 0:
            return None
        if height == 0:
            return rows[at] if rows[at][0] == key else None
        ref = rows[at][2]
    return None


def size_in(bag, ref):
    """How many keys the map has."""
    if ref is None:
        return 0
    height, rows = node_of(bag, ref)
    return _many_keys(height, rows)


def rows_in(bag, ref):
    """All rows of the map."""
    if ref is None:
        return []
    height, rows = node_of(bag, ref)
    if height == 0:
        return list(rows)
    return [row for child in rows for row in rows_in(bag, child[2])]


def rows_from(bag, ref, low, many):
    """The first rows whose keys are low or above, at most so many."""
    if ref is None or many == 0:
        return []
    height, rows = node_of(bag, ref)
    at = max(_place_of(rows, low), 0)
    if height == 0:
        return [row for row in rows[at:] if row[0] >= low][:many]
    found = []
    for child in rows[at:]:
        if len(found) < many:
            found.extend(rows_from(bag, child[2], low, many - len(found)))
    return found


def blocks_in(bag, ref):
    """The names of all blocks in which the map lies."""
    level = {} if ref is None else {ref: True}
    height = height_of(bag, ref)
    found = []
    while len(level) > 0:
        found.extend(list(level))
        # What lies in a leaf needs not be looked at for its name.
        level = {} if height <= 0 else {row[2]: True for block in level for row in node_of(bag, block)[1]}
        height -= 1
    return found


def height_of(bag, ref):
    """The height of the node; -1 for the map without keys."""
    return -1 if ref is None else node_of(bag, ref)[0]


def built(rows):
    """The map with these ascending rows."""
    if len(rows) == 0:
        return None
    height = 0
    while len(rows) > MOST:
        many = (len(rows) + MOST - 1) // MOST
        places = [len(rows) * part // many for part in range(many + 1)]
        rows = tuple([_told(height, rows[places[part]:places[part + 1]]) for part in range(many)])
        height += 1
    return Draft((height, rows))


def put_in(bag, ref, key, value):
    """The map that leads from this key to this value; the same reference if it did so before."""
    if ref is None:
        return Draft((0, ((key, value),)))
    told = _put(bag, ref, key, value)
    if len(told) == 0:
        return ref
    if len(told) == 1:
        return told[0][2]
    return Draft((node_of(bag, ref)[0] + 1, told))


def drop_in(bag, ref, key):
    """The map without this key, which it must have."""
    if ref is None:
        raise NoKey(key)
    height, rows = _dropped(bag, ref, key)
    if len(rows) == 0:
        return None
    if height > 0 and len(rows) == 1:
        return rows[0][2]
    return Draft((height, rows))


def _place_of(rows, key):
    """The place of the last row whose key is this one or below it; -1 if there is none."""
    if isinstance(rows[0][0], str) != isinstance(key, str):
        raise BadKey(key)
    at = len(rows) - 1
    while at >= 0 and rows[at][0] > key:
        at -= 1
    return at


def _many_keys(height, rows):
    return len(rows) if height == 0 else sum([row[1] for row in rows])


def _told(height, rows):
    """The row that tells of a new node with these rows."""
    return rows[0][0], _many_keys(height, rows), Draft((height, rows))


def _spread(height, rows):
    """The rows that tell of one new node with these rows, or of two if they are too many for one."""
    if len(rows) <= MOST:
        return (_told(height, rows),)
    half = len(rows) // 2
    return _told(height, rows[:half]), _told(height, rows[half:])


def _put(bag, ref, key, value):
    """The rows that tell of the nodes that come in the place of this one; none if nothing changes."""
    height, rows = node_of(bag, ref)
    at = _place_of(rows, key)
    if height > 0:
        at = max(at, 0)
        below = _put(bag, rows[at][2], key, value)
        return () if len(below) == 0 else _spread(height, rows[:at] + below + rows[at + 1:])
    is_there = at >= 0 and rows[at][0] == key
    if is_there and rows[at][1] == value:
        return ()
    ahead = rows[:at] if is_there else rows[:at + 1]
    return _spread(height, ahead + ((key, value),) + rows[at + 1:])


def _dropped(bag, ref, key):
    """The height and the rows of the node without this key: these may be too few for a node."""
    height, rows = node_of(bag, ref)
    at = _place_of(rows, key)
    if at < 0 or height == 0 and rows[at][0] != key:
        raise NoKey(key)
    if height == 0:
        return height, rows[:at] + rows[at + 1:]
    below = _dropped(bag, rows[at][2], key)
    return height, _with_node(bag, rows, at, below)


def _with_node(bag, rows, at, node):
    """The rows with this node at this place; if its rows are too few, those of a neighbour are joined to them."""
    height, inner = node
    low, high = at, at + 1
    if len(inner) < LEAST and high < len(rows):
        inner = inner + node_of(bag, rows[high][2])[1]
        high += 1
    elif len(inner) < LEAST:
        low -= 1
        inner = node_of(bag, rows[low][2])[1] + inner
    return rows[:low] + _spread(height, inner) + rows[high:]
