"""Maps in the blocks of a bag, from strings or from integers to values."""

from lyinghouse.checks import check_name, check_number, check_root
from lyinghouse.drafts import settled
from lyinghouse.errors import BadKey, BadRows, BadValue, NoKey
from lyinghouse.kinds import GREATEST_NUMBER, is_integer
from lyinghouse.nodes import blocks_in, built, drop_in, height_of, node_of, put_in, row_in, rows_from, rows_in, size_in
from lyinghouse.values import is_value, is_value_within

LONGEST_KEY = 60
DEEPEST_VALUE = 20
MOST_ROWS = 10000


def map_get(bag, root, key):
    """The value to which the map leads from this key."""
    row = _row_of(bag, root, key)
    if row is None:
        raise NoKey(key)
    return row[1]


def map_has(bag, root, key):
    """Whether the map has this key."""
    return _row_of(bag, root, key) is not None


def map_put(bag, name, root, key, value):
    """The root of the map that leads from this key to this value."""
    check_name(name)
    check_root(root)
    _check_key(key)
    if not _is_map_value(value):
        raise BadValue(value)
    return settled(bag, name, put_in(bag, root, key, value))


def map_drop(bag, name, root, key):
    """The root of the map without this key."""
    check_name(name)
    check_root(root)
    _check_key(key)
    return settled(bag, name, drop_in(bag, root, key))


def map_of(bag, name, rows):
    """The root of the map with these rows."""
    check_name(name)
    if not _are_rows(rows):
        raise BadRows(rows)
    return settled(bag, name, built(tuple(sorted(list(rows), key=lambda row: row[0]))))


def map_rows(bag, root):
    """All rows of the map, ascending by keys."""
    check_root(root)
    return tuple(rows_in(bag, root))


def map_size(bag, root):
    """How many keys the map has."""
    check_root(root)
    return size_in(bag, root)


def map_part(bag, root, low, many):
    """The first rows of the map whose keys are low or above, at most so many."""
    check_root(root)
    _check_key(low)
    check_number(many, 0, MOST_ROWS)
    return tuple(rows_from(bag, root, low, many))


def map_blocks(bag, root):
    """The names of all blocks in which the map lies."""
    check_root(root)
    return tuple(sorted(blocks_in(bag, root)))


def map_changes(bag, one, other):
    """What the maps do not both have: each such key with what one, and what the other has there."""
    check_root(one)
    check_root(other)
    rows, others = _rows_apart(bag, one, other)
    before = {key: (value,) for key, value in rows}
    behind = {key: (value,) for key, value in others}
    keys = sorted(set(list(before) + list(behind)))
    told = [(key, before.get(key, ()), behind.get(key, ())) for key in keys]
    return tuple([row for row in told if row[1] != row[2]])


def _row_of(bag, root, key):
    check_root(root)
    _check_key(key)
    return row_in(bag, root, key)


def _check_key(key):
    if not _is_key(key):
        raise BadKey(key)


def _is_key(value):
    if isinstance(value, str):
        return len(value) <= LONGEST_KEY and is_value(value)
    return is_integer(value, -GREATEST_NUMBER, GREATEST_NUMBER)


def _is_map_value(value):
    return is_value_within(value, DEEPEST_VALUE)


def _are_rows(rows):
    if not (isinstance(rows, tuple) and all([_is_row(row) for row in rows])):
        return False
    keys = [row[0] for row in rows]
    words = [key for key in keys if isinstance(key, str)]
    return len(words) in (0, len(keys)) and len(set(keys)) == len(keys)


def _is_row(value):
    return isinstance(value, tuple) and len(value) == 2 and _is_key(value[0]) and _is_map_value(value[1])


def _rows_apart(bag, one, other):
    """The rows of each of both maps, but for those that lie in blocks of both."""
    if one == other:
        return [], []
    heights = (height_of(bag, one), height_of(bag, other))
    ones, others = [], []
    # A block lies at the same height wherever it lies: those of both are found level by level.
    for height in range(max(heights), -1, -1):
        ones = [one] if heights[0] == height else ones
        others = [other] if heights[1] == height else others
        ones, others = _below(bag, ones, others), _below(bag, others, ones)
    return ones, others


def _below(bag, blocks, others):
    """The rows of these blocks but the others; or, if they are no leaves, the blocks that these rows name."""
    known = {block: True for block in others}
    nodes = [node_of(bag, block) for block in blocks if block not in known]
    return [row if height == 0 else row[2] for height, rows in nodes for row in rows]
