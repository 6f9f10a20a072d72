"""Counts, made things, and the rows that they stand in.

A row is told by its counts: of each desk it has just the things that are numbered from 1 to the count at its name.
"""

from lyinghouse.errors import BadCounts, BadNames, BadPast, BadRows, BadValue, NoDesk, NoRow, NotOwn, TooMany
from lyinghouse.kinds import FEWEST_DESKS, MOST_DESKS, are_counts, is_integer, is_names
from lyinghouse.values import is_value

MOST_THINGS = 1000


def is_past(names, value):
    """Whether any value is a past for the names."""
    _check_names(names)
    if not (isinstance(value, tuple) and len(value) <= MOST_THINGS):
        return False
    if not all([_is_made_thing(names, part) for part in value]):
        return False
    if len(set([part[:2] for part in value])) < len(value):
        return False
    known = _by_counts(value)
    return all([_is_row_of(known, _ground(names, part)) for part in value])


def sides(one, other):
    """How the row with the counts one lies to that with the counts other."""
    _check_both(one, other)
    return sides_of(one, other)


def joined(one, other):
    """The greater count at each place."""
    _check_both(one, other)
    return greater_counts(one, other)


def common(one, other):
    """The lesser count at each place."""
    _check_both(one, other)
    return tuple([min(mine, its) for mine, its in zip(one, other)])


def row_of(names, past, counts):
    """The made things of the row with these counts; None if there is no such row."""
    _check_past(names, past)
    _check_counts(names, counts)
    return _row(names, _by_counts(past), counts)


def row_sides(names, past, one, other):
    """How the row with the counts one lies to that with the counts other, as their made things tell."""
    mine, its = _both_rows(names, past, one, other)
    shared = _many_shared(mine, its)
    if shared < min(len(mine), len(its)):
        return "parted"
    if len(mine) == len(its):
        return "alike"
    return "ahead" if len(mine) > len(its) else "behind"


def parting(names, past, one, other):
    """The counts of the last made thing that both rows have."""
    mine, its = _both_rows(names, past, one, other)
    shared = _many_shared(mine, its)
    return mine[shared - 1][2] if shared > 0 else no_counts(names)


def ends(names, past):
    """The counts of all made things on which none stands."""
    _check_past(names, past)
    grounds = {_ground(names, thing): True for thing in past}
    return tuple(sorted([thing[2] for thing in past if thing[2] not in grounds]))


def stood_on(names, past, counts):
    """Whose made things stand on the one with these counts, each with its number."""
    _check_past(names, past)
    _check_counts(names, counts)
    _check_row(_by_counts(past), counts)
    return tuple(sorted([thing[:2] for thing in past if _ground(names, thing) == counts]))


def made_on(names, past, name, counts, deed):
    """The past with one made thing more, which this desk has made on the row with these counts."""
    _check_past(names, past)
    if not (isinstance(name, str) and name in names):
        raise NoDesk(name)
    _check_counts(names, counts)
    _check_row(_by_counts(past), counts)
    own = names.index(name)
    many = _many_made(past, name)
    if counts[own] != many:
        raise NotOwn(many)
    if not is_value(deed):
        raise BadValue(deed)
    if len(past) == MOST_THINGS:
        raise TooMany(MOST_THINGS)
    return (*past, (name, many + 1, with_one_more(counts, own), deed))


def rows_told(names, past, rows):
    """How the rows of each two desks lie to one another."""
    _check_past(names, past)
    if not _are_own_rows(names, past, rows):
        raise BadRows(rows)
    pairs = [(at, its) for at in range(len(names)) for its in range(at + 1, len(names))]
    return tuple([(names[at], names[its], sides_of(rows[at], rows[its])) for at, its in pairs])


def sides_of(one, other):
    """How the row with the counts one lies to that with the counts other, for what are known to be counts."""
    if one == other:
        return "alike"
    pairs = list(zip(one, other))
    if all([mine >= its for mine, its in pairs]):
        return "ahead"
    return "behind" if all([mine <= its for mine, its in pairs]) else "parted"


def greater_counts(one, other):
    """The greater count at each place, for what are known to be counts."""
    return tuple([max(mine, its) for mine, its in zip(one, other)])


def with_one_more(counts, at):
    """The counts with one more at this place."""
    return (*counts[:at], counts[at] + 1, *counts[at + 1:])


def with_one_less(counts, at):
    """The counts with one less at this place."""
    return (*counts[:at], counts[at] - 1, *counts[at + 1:])


def no_counts(names):
    """The counts that are all 0."""
    return (0,) * len(names)


def _check_names(names):
    if not is_names(names):
        raise BadNames(names)


def _check_past(names, past):
    if not is_past(names, past):
        raise BadPast(past)


def _check_counts(names, counts):
    if not are_counts(counts, len(names)):
        raise BadCounts(counts)


def _check_both(one, other):
    """Raises BadCounts unless both are counts for equally many desks, whose names are not told."""
    if not (isinstance(one, tuple) and FEWEST_DESKS <= len(one) <= MOST_DESKS and are_counts(one, len(one))):
        raise BadCounts(one)
    if not are_counts(other, len(one)):
        raise BadCounts(other)


def _check_row(known, counts):
    if not _is_row_of(known, counts):
        raise NoRow(counts)


def _is_made_thing(names, value):
    if not (isinstance(value, tuple) and len(value) == 4):
        return False
    name, number, counts, deed = value
    if not (isinstance(name, str) and name in names and are_counts(counts, len(names))):
        return False
    return is_integer(number, 1, counts[names.index(name)]) and number == counts[names.index(name)] and is_value(deed)


def _ground(names, thing):
    """The counts of the row on which the made thing stands."""
    name, _, counts, _ = thing
    return with_one_less(counts, names.index(name))


def _by_counts(past):
    return {thing[2]: thing for thing in past}


def _is_row_of(known, counts):
    return counts in known or sum(counts) == 0


def _row(names, known, counts):
    """The row with these counts; None if there is none."""
    if not _is_row_of(known, counts):
        return None
    row = []
    while counts in known:
        row.append(known[counts])
        counts = _ground(names, known[counts])
    return tuple(row[::-1])


def _both_rows(names, past, one, other):
    """The rows with these counts, both of which must be there."""
    _check_past(names, past)
    _check_counts(names, one)
    _check_counts(names, other)
    known = _by_counts(past)
    _check_row(known, one)
    _check_row(known, other)
    return _row(names, known, one), _row(names, known, other)


def _many_shared(one, other):
    """How many made things both rows have at their beginning."""
    many = 0
    while many < min(len(one), len(other)) and one[many] == other[many]:
        many += 1
    return many


def _many_made(past, name):
    return len([thing for thing in past if thing[0] == name])


def _are_own_rows(names, past, rows):
    if not (isinstance(rows, tuple) and len(rows) == len(names)):
        return False
    known = _by_counts(past)
    for at, counts in enumerate(rows):
        if not (are_counts(counts, len(names)) and _is_row_of(known, counts)):
            return False
        if counts[at] != _many_made(past, names[at]):
            return False
    return True
