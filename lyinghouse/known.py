"""Who knows that a house lied: desks that meet tell one another all counts that they have heard of."""

from lyinghouse.errors import BadEvents, BadNames, NoDesk
from lyinghouse.kinds import are_counts, is_integer, is_names
from lyinghouse.rows import no_counts, sides_of
from lyinghouse.values import is_value

MOST_EVENTS = 300


class Ears:
    """What all desks have heard of behind some events: chains leads from each desk's name to a chain for all counts.

    knowing leads from each desk that knows to the number of the event behind which it does.
    """

    def __init__(self, names):
        self.chains = {name: {} for name in names}
        self.knowing = {}

    def hear(self, number, event):
        """What comes about by this event."""
        told = {}
        if event[0] == "goes":
            _, name, counts = event
            told[name] = {counts: (number,)}
        else:
            _, one, other = event
            for teller, name in ((one, other), (other, one)):
                told[name] = {counts: (*chain, number) for counts, chain in self.chains[teller].items()}
        for name in told:
            for counts, chain in told[name].items():
                self.chains[name].setdefault(counts, chain)
            if name not in self.knowing and _parted_pair(self.chains[name]) is not None:
                self.knowing[name] = number


def heard_of(names, events, name):
    """All counts that the desk has heard of."""
    return tuple(sorted(list(_ears_of_desk(names, events, name).chains[name])))


def first_lie(names, events):
    """The number of the first event behind which two counts that desks went by are parted; None if there is none."""
    _check_events(names, events)
    return _first_lie(events)


def knowing(names, events):
    """The desks that know, each with the number of the first event behind which it does."""
    ears = _ears(names, events)
    return tuple([(name, ears.knowing[name]) for name in names if name in ears.knowing])


def why_known(names, events, name):
    """By which chains the desk knows; if it does not know, all that it has heard of."""
    chains = _ears_of_desk(names, events, name).chains[name]
    pair = _parted_pair(chains)
    if pair is None:
        return "not", tuple(sorted(list(chains)))
    return "knows", chains[pair[0]], chains[pair[1]]


def shows_why(names, events, name, value):
    """Whether any value is what why_known may return."""
    told = why_known(names, events, name)
    if not is_value(value):
        return False
    if told[0] == "not":
        return value == told
    if not (isinstance(value, tuple) and len(value) == 3 and value[0] == "knows"):
        return False
    counts = [_counts_told(events, name, chain) for chain in value[1:]]
    return None not in counts and sides_of(counts[0], counts[1]) == "parted"


def fewest_meetings(names, events):
    """How many meetings are needed until all desks know, and such meetings; None if there was no lie."""
    _check_events(names, events)
    if _first_lie(events) is None:
        return None
    knows = _knowing_shares(names, events)
    pairs = [(at, its) for at in range(len(names)) for its in range(at + 1, len(names))]
    # A desk has what some of all desks had heard of behind the events: its share is told by their bits.
    level = {tuple([1 << at for at in range(len(names))]): ()}
    seen = {shares: True for shares in level}
    while True:
        for shares, meetings in level.items():
            if all([knows[share] for share in shares]):
                return len(meetings), tuple([(names[at], names[its]) for at, its in meetings])
        further = {}
        for shares, meetings in level.items():
            for at, its in pairs:
                further.setdefault(_behind_meeting(shares, at, its), (*meetings, (at, its)))
        level = {shares: further[shares] for shares in further if shares not in seen}
        for shares in level:
            seen[shares] = True


def shows_fewest(names, events, value):
    """Whether any value is what fewest_meetings may return."""
    told = fewest_meetings(names, events)
    if told is None or not is_value(value):
        return told is None and value is None
    if not (isinstance(value, tuple) and len(value) == 2 and value[0] == told[0] and isinstance(value[1], tuple)):
        return False
    if not (len(value[1]) == told[0] and all([_is_meeting(names, part) for part in value[1]])):
        return False
    knows = _knowing_shares(names, events)
    shares = tuple([1 << at for at in range(len(names))])
    for one, other in value[1]:
        shares = _behind_meeting(shares, names.index(one), names.index(other))
    return all([knows[share] for share in shares])


def _check_events(names, events):
    if not is_names(names):
        raise BadNames(names)
    if not (isinstance(events, tuple) and len(events) <= MOST_EVENTS):
        raise BadEvents(None)
    goes_by = {name: no_counts(names) for name in names}
    for number, event in enumerate(events):
        if not _can_stand(names, goes_by, event):
            raise BadEvents(number)
        if event[0] == "goes":
            goes_by[event[1]] = event[2]


def _can_stand(names, goes_by, event):
    """Whether any value is an event that can be when the desks go by these counts."""
    if not (isinstance(event, tuple) and len(event) == 3 and isinstance(event[0], str)):
        return False
    word, name, told = event
    if word == "meets":
        return _is_meeting(names, (name, told))
    if not (word == "goes" and isinstance(name, str) and name in names and are_counts(told, len(names))):
        return False
    return sides_of(told, goes_by[name]) in ("alike", "ahead")


def _is_meeting(names, value):
    """Whether any value is a pair of names, one ahead of the other."""
    if not (isinstance(value, tuple) and len(value) == 2):
        return False
    return all([isinstance(name, str) and name in names for name in value]) and value[0] < value[1]


def _ears(names, events):
    _check_events(names, events)
    ears = Ears(names)
    for number, event in enumerate(events):
        ears.hear(number, event)
    return ears


def _ears_of_desk(names, events, name):
    ears = _ears(names, events)
    if not (isinstance(name, str) and name in names):
        raise NoDesk(name)
    return ears


def _parted_pair(chains):
    """Two of these counts that are parted; None if each two of them are not."""
    # Whichever of two counts is behind the other one is also the lesser one, as Python sorts.
    rows = sorted(list(chains))
    for at in range(len(rows) - 1):
        if sides_of(rows[at], rows[at + 1]) == "parted":
            return rows[at], rows[at + 1]
    return None


def _first_lie(events):
    gone_by = {}
    for number, event in enumerate(events):
        if event[0] == "goes":
            gone_by[event[2]] = True
            if _parted_pair(gone_by) is not None:
                return number
    return None


def _counts_told(events, name, chain):
    """The counts with which the chain begins, if it is one that ends at this desk; None if it is none."""
    if not (isinstance(chain, tuple) and all([is_integer(number, 0, len(events) - 1) for number in chain])):
        return None
    if len(chain) == 0 or any([chain[at] >= chain[at + 1] for at in range(len(chain) - 1)]):
        return None
    word, teller, counts = events[chain[0]]
    if word != "goes":
        return None
    for number in chain[1:]:
        word, one, other = events[number]
        if word != "meets" or teller not in (one, other):
            return None
        teller = other if teller == one else one
    return counts if teller == name else None


def _knowing_shares(names, events):
    """For each share, whether a desk knows that has heard of all that these desks heard of in the events."""
    chains = _ears(names, events).chains
    shares = [[name for at, name in enumerate(names) if (share >> at) & 1 == 1] for share in range(1 << len(names))]
    return [_parted_pair({counts: True for name in share for counts in chains[name]}) is not None for share in shares]


def _behind_meeting(shares, at, its):
    """The shares of all desks behind a meeting of those at these two places."""
    both = shares[at] | shares[its]
    return tuple([both if place in (at, its) else share for place, share in enumerate(shares)])
