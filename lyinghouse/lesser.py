"""Desks that leave out a check: each rule tells which checks they make, and for each but the whole one all goes wrong.

A statement is told by its number; None stands for no statement.
"""

from lyinghouse.errors import BadEvents, BadNumber, BadRule
from lyinghouse.kinds import is_integer

DESKS = ("a", "b")
MOST_EVENTS = 200
RULE_PARTS = 4
LEFT = "left"
TWICE = "twice"
SUSPECTED = "suspected"
# How many parts an event with this word has.
FORMS = {"make": 2, "hand": 2, "show": 3, "fall": 2}
# Runs whose last event is wrong, for rules by which the desks do not look at their own count, do not look at the
# other's one, do not write ahead of saying, do not wait for their turn.
BY_OWN = (False, (("make", "a"), ("make", "b"), ("show", "a", 1)))
BY_OTHERS = (False, (("make", "a"), ("make", "a"), ("show", "b", 1), ("show", "b", 0)))
BY_AHEAD = (False, (("make", "a"), ("fall", "a"), ("make", "a")))
BY_TURN = (True, (("make", "a"), ("make", "b"), ("hand", "a"), ("hand", "b"), ("show", "b", 0)))


class Run:
    """Two desks and a house, as far as a run by this rule has come: at first there is no statement.

    Each row of made is (name, ground, counts). goes_by and hand lead from the name of each desk to the statement that
    it goes by, and to the one that it has to hand; kept is the one that the house keeps.
    """

    def __init__(self, rule, is_honest):
        self.rule = rule
        self.is_honest = is_honest
        self.made = []
        self.goes_by = {name: None for name in DESKS}
        self.hand = {name: None for name in DESKS}
        self.kept = None

    def counts_of(self, number):
        """The counts of a statement; (0, 0) of none."""
        return (0, 0) if number is None else self.made[number][2]

    def can_be(self, event):
        """Whether any value is an event that can be now."""
        if not (isinstance(event, tuple) and len(event) > 1 and isinstance(event[0], str)):
            return False
        if FORMS.get(event[0], 0) != len(event) or not (isinstance(event[1], str) and event[1] in DESKS):
            return False
        word, name = event[:2]
        if word == "make":
            return self._can_make(name)
        if word == "hand":
            return self.hand[name] is not None
        return word == "fall" or self._can_show(name, event[2])

    def go_on(self, event):
        """What comes about by an event that can be: its word."""
        word, name = event[:2]
        if word == "make":
            return self._make(name)
        if word == "hand":
            return self._hand(name)
        return self._fall(name) if word == "fall" else self._show(name, event[2])

    def _can_make(self, name):
        if not (self.is_honest and self.rule[3]):
            return True
        return self.goes_by[name] == self.kept and [self.hand[other] for other in DESKS] == [None, None]

    def _can_show(self, name, number):
        if not is_integer(number, 0, len(self.made) - 1):
            return False
        return not self.is_honest or (self.kept == number and self.hand[name] is None)

    def _make(self, name):
        own = DESKS.index(name)
        ground = self.goes_by[name]
        counts = tuple([count + (1 if at == own else 0) for at, count in enumerate(self.counts_of(ground))])
        is_twice = any([row[0] == name and row[2][own] == counts[own] for row in self.made])
        self.goes_by[name] = self.hand[name] = len(self.made)
        self.made.append((name, ground, counts))
        return TWICE if is_twice else "made"

    def _hand(self, name):
        number = self.hand[name]
        self.hand[name] = None
        if self.made[number][1] != self.kept:
            return "turned away"
        self.kept = number
        return "kept"

    def _show(self, name, number):
        old = self.goes_by[name]
        if not self._is_taken(name, number):
            return SUSPECTED if self.is_honest else "refused"
        if number != old:
            self.goes_by[name] = number
            self.hand[name] = None
        return "over" if self._is_in_row(old, number) else LEFT

    def _fall(self, name):
        number = self.hand[name]
        if number is not None and not self.rule[2]:
            self.goes_by[name] = self.made[number][1]
            self.hand[name] = None
        return "fallen"

    def _is_taken(self, name, number):
        """Whether the desk goes over to this statement, by the checks of the rule."""
        own = DESKS.index(name)
        shown, mine = self.counts_of(number), self.counts_of(self.goes_by[name])
        if self.rule[0] and shown[own] != mine[own]:
            return False
        return not self.rule[1] or shown[1 - own] >= mine[1 - own]

    def _is_in_row(self, number, last):
        """Whether the row of the last statement begins with that of this one."""
        while last is not None and last != number:
            last = self.made[last][1]
        return last == number


def run_of(rule, is_honest, events):
    """What comes about by each of the events of a run, and the counts of what both desks go by behind it."""
    _check_rule(rule)
    if not isinstance(is_honest, bool):
        raise BadNumber(is_honest)
    if not (isinstance(events, tuple) and len(events) <= MOST_EVENTS):
        raise BadEvents(None)
    run = Run(rule, is_honest)
    told = []
    for number, event in enumerate(events):
        if not run.can_be(event):
            raise BadEvents(number)
        word = run.go_on(event)
        told.append((word, *[run.counts_of(run.goes_by[name]) for name in DESKS]))
    return tuple(told)


def least_wrong(rule):
    """A shortest run by this rule whose last event is wrong; None if there is none."""
    _check_rule(rule)
    own, others, ahead, turn = rule
    if not ahead:
        return BY_AHEAD
    if not own:
        return BY_OWN
    if not others:
        return BY_OTHERS
    return None if turn else BY_TURN


def shows_least_wrong(rule, value):
    """Whether any value is what least_wrong may return."""
    told = least_wrong(rule)
    if told is None:
        return value is None
    if not (isinstance(value, tuple) and len(value) == 2 and isinstance(value[0], bool)):
        return False
    if not (isinstance(value[1], tuple) and len(value[1]) == len(told[1])):
        return False
    try:
        words = run_of(rule, value[0], value[1])
    except BadEvents:
        return False
    return words[-1][0] in (LEFT, TWICE, SUSPECTED)


def wrong_words(rule):
    """Those of the three words that the first wrong event of some run by this rule is."""
    _check_rule(rule)
    own, others, ahead, turn = rule
    words = []
    # As long as no count is made twice, counts tell rows: who looks at both counts leaves none.
    if not (own and others):
        words.append(LEFT)
    # An honest house keeps one row that only grows. So of what others made it never keeps less than a desk goes by; of
    # what the desk itself made it may, if that was turned away, but not if desks make nothing out of their turn.
    if own and not turn:
        words.append(SUSPECTED)
    # A desk that did not leave its row goes by all that it made, if nothing of that is lost in falls.
    if not ahead:
        words.append(TWICE)
    return tuple(words)


def _check_rule(rule):
    if not (isinstance(rule, tuple) and len(rule) == RULE_PARTS and all([isinstance(part, bool) for part in rule])):
        raise BadRule(rule)
