"""What desks told, judged: whether any house can have brought it about, and what it must have shown them.

An event of a desk is (deed, answer, counts). An event that made something is told by its place: the name of its desk,
and its number.
"""

from lyinghouse.errors import BadCounts, BadNames, BadTellings, Never, NoDesk, NoRow
from lyinghouse.kinds import are_counts, is_integer, is_names
from lyinghouse.plain import PlainTree, is_deed
from lyinghouse.rows import no_counts, sides_of, with_one_less
from lyinghouse.values import is_value

MOST_EVENTS = 400


class Heard:
    """What tellings tell: events by their places, and the makers and the trees of all counts that have a row."""

    def __init__(self, names, tellings):
        self.names = names
        self.events = dict(zip(names, tellings))
        self.makers = {}
        self.trees = {no_counts(names): PlainTree()}
        made = [(sum(self.counts_at(name, number)), at, number)
                for at, name in enumerate(names)
                for number in range(len(tellings[at])) if self.has_made(name, number)]
        # The ground of an event has lesser counts: so its row is found ahead of that of the event.
        for _, at, number in sorted(made):
            self._find_row(names[at], number)

    def counts_at(self, name, number):
        """The counts of the event; all 0 for the one ahead of the first one."""
        return no_counts(self.names) if number < 0 else self.events[name][number][2]

    def last_counts(self, name):
        """The counts by which the desk went at last."""
        return self.counts_at(name, len(self.events[name]) - 1)

    def has_made(self, name, number):
        """Whether the event made something."""
        own = self.names.index(name)
        return self.counts_at(name, number)[own] == self.counts_at(name, number - 1)[own] + 1

    def ground_of(self, name, number):
        """The counts of the row on which the event was."""
        counts = self.counts_at(name, number)
        return with_one_less(counts, self.names.index(name)) if self.has_made(name, number) else counts

    def changed(self, name, number):
        """The tree of the ground of the event with the event's deed done."""
        tree = self.trees[self.ground_of(name, number)].copy()
        tree.done(self.events[name][number][0])
        return tree

    def places(self):
        """The places of all events, desk by desk."""
        return [(name, number) for name in self.names for number in range(len(self.events[name]))]

    def _find_row(self, name, number):
        counts = self.counts_at(name, number)
        if counts not in self.trees and self.ground_of(name, number) in self.trees:
            self.makers[counts] = name, number
            self.trees[counts] = self.changed(name, number)


def are_tellings(names, value):
    """Whether any value is tellings for the names."""
    if not is_names(names):
        raise BadNames(names)
    if not (isinstance(value, tuple) and len(value) == len(names)):
        return False
    if not all([isinstance(part, tuple) for part in value]):
        return False
    if sum([len(part) for part in value]) > MOST_EVENTS:
        return False
    return all([_are_events(names, part) for part in value])


def judged_tellings(names, tellings):
    """Whether the tellings can be, and if they can, by which rows the desks went at last."""
    _check_tellings(names, tellings)
    return _judged(Heard(names, tellings))


def past_of(names, tellings):
    """The past of all things that were made."""
    heard = _heard(names, tellings)
    rows = sorted([(sum(counts), heard.makers[counts][0], counts) for counts in heard.makers])
    return tuple([_made_thing(heard, counts) for _, _, counts in rows])


def tree_told(names, tellings, counts):
    """The tree of these counts."""
    heard = _heard(names, tellings)
    if not are_counts(counts, len(names)):
        raise BadCounts(counts)
    if counts not in heard.trees:
        raise NoRow(counts)
    return heard.trees[counts].copy()


def worlds_of(names, tellings):
    """The counts of each row that goes on furthest, and the desks that go by it, or by a beginning of it."""
    heard = _heard(names, tellings)
    lasts = {name: heard.last_counts(name) for name in names}
    worlds = []
    for counts in _ends(heard):
        desks = [name for name in names if sides_of(lasts[name], counts) in ("alike", "behind")]
        worlds.append((counts, tuple(desks)))
    return tuple(worlds)


def first_apart(names, tellings, one, other):
    """Where the rows of both desks part, and the first event of each of them behind that; None if they do not."""
    heard = _heard(names, tellings)
    for name in (one, other):
        if not (isinstance(name, str) and name in names):
            raise NoDesk(name)
    mine, its = heard.last_counts(one), heard.last_counts(other)
    if sides_of(mine, its) != "parted":
        return None
    shared = tuple([min(pair) for pair in list(zip(mine, its))])
    return shared, _first_beyond(heard, one, shared), _first_beyond(heard, other, shared)


def house_day(names, tellings):
    """The places of all events, in any sequence in which a house can have brought them about."""
    heard = _heard(names, tellings)
    # Events that made something have greater counts than all that their desk told ahead of them.
    rows = [(sum(heard.counts_at(name, number)), not heard.has_made(name, number), name, number)
            for name, number in heard.places()]
    return tuple([(name, number) for _, _, name, number in sorted(rows)])


def is_house_day(names, tellings, value):
    """Whether any value is such a sequence of the places of all events."""
    heard = _heard(names, tellings)
    if not (isinstance(value, tuple) and len(value) == len(heard.places())):
        return False
    told = {name: 0 for name in names}
    for part in value:
        if not (_is_place(heard, part) and part[1] == told[part[0]] and _is_founded(heard, part, told)):
            return False
        told[part[0]] += 1
    return True


def _check_tellings(names, tellings):
    if not are_tellings(names, tellings):
        raise BadTellings(tellings)


def _heard(names, tellings):
    """What the tellings tell, if they can be."""
    _check_tellings(names, tellings)
    heard = Heard(names, tellings)
    told = _judged(heard)
    if told[0] == "never":
        raise Never(told)
    return heard


def _are_events(names, events):
    """Whether the parts of the tuple are events, of which only the last one may have None for its answer."""
    if not all([_is_event(names, event) for event in events]):
        return False
    return all([event[1] is not None for event in events[:-1]])


def _is_event(names, value):
    return isinstance(value, tuple) and len(value) == 3 and is_deed(value[0]) and are_counts(value[2], len(names))


def _judged(heard):
    for name, number in heard.places():
        word = _why_never(heard, name, number)
        if word != "":
            return "never", name, number, word
    counts = _ends(heard)
    return ("one", counts[0]) if len(counts) == 1 else ("parted", counts)


def _why_never(heard, name, number):
    """The word why the event cannot be; "" if it can be."""
    own = heard.names.index(name)
    deed, answer, counts = heard.events[name][number]
    ahead = heard.counts_at(name, number - 1)
    has_made = heard.has_made(name, number)
    if sides_of(counts, ahead) not in ("alike", "ahead") or counts[own] > ahead[own] + 1:
        return "counts"
    ground = heard.ground_of(name, number)
    if ground not in heard.trees:
        return "ground"
    is_told = is_value(answer) and answer == heard.trees[ground].answer(deed)
    if not (has_made if answer is None else is_told):
        return "answer"
    is_change = heard.changed(name, number) != heard.trees[ground]
    return "" if is_change == has_made else "made"


def _ends(heard):
    """Those of the counts by which the desks went at last that no others of these are ahead of."""
    lasts = [heard.last_counts(name) for name in heard.names]
    return tuple(sorted(set([one for one in lasts if not any([sides_of(other, one) == "ahead" for other in lasts])])))


def _made_thing(heard, counts):
    name, number = heard.makers[counts]
    return name, counts[heard.names.index(name)], counts, heard.events[name][number][0]


def _first_beyond(heard, name, shared):
    """The number of the first event of the desk whose row has more than the row with the shared counts."""
    many = len(heard.events[name])
    return min([number for number in range(many) if sum(heard.counts_at(name, number)) > sum(shared)])


def _is_place(heard, value):
    if not (isinstance(value, tuple) and len(value) == 2 and isinstance(value[0], str) and value[0] in heard.names):
        return False
    return is_integer(value[1], 0, len(heard.events[value[0]]) - 1)


def _is_founded(heard, place, told):
    """Whether what the event stands on was made, if so many events of each desk were told ahead of it."""
    name, number = place
    ground = heard.ground_of(name, number)
    if ground not in heard.makers:
        return True
    maker, its = heard.makers[ground]
    return its < told[maker]
