import random
import unittest
from itertools import combinations, product

from lyinghouse.errors import BadEvents, BadNames, NoDesk
from lyinghouse.known import first_lie, fewest_meetings, heard_of, knowing, shows_fewest, shows_why, why_known
from lyinghouse.rows import sides
from samples import odd_values, raised, raises_with

NAMES = (("ann", "bob"), ("ann", "bob", "cid"), ("a", "b", "c", "d"), ("a", "b", "c", "d", "e"))


def heard_behind(names, events):
    """What each desk has heard of: section 16 word by word."""
    heard = {name: set() for name in names}
    for event in events:
        if event[0] == "goes":
            heard[event[1]].add(event[2])
        else:
            both = heard[event[1]] | heard[event[2]]
            heard[event[1]], heard[event[2]] = set(both), set(both)
    return heard


def is_lie(counts):
    return any(sides(one, other) == "parted" for one, other in combinations(sorted(counts), 2))


def all_chains(events, name):
    """All chains that end at the desk, each with the counts with which it begins."""
    chains = [((number,), event[1], event[2]) for number, event in enumerate(events) if event[0] == "goes"]
    found = []
    while chains:
        chain, teller, counts = chains.pop()
        found.append((chain, teller, counts))
        for number in range(chain[-1] + 1, len(events)):
            if events[number][0] == "meets" and teller in events[number][1:]:
                chains.append(((*chain, number), next(other for other in events[number][1:] if other != teller), counts))
    return {chain: counts for chain, teller, counts in found if teller == name}


def some_events(names, chance, many, meets=0.5):
    went = {name: (0,) * len(names) for name in names}
    events = []
    for _ in range(many):
        if chance.random() < meets:
            events.append(("meets", *sorted(chance.sample(names, 2))))
        else:
            name = chance.choice(names)
            kind = chance.random()
            counts = went[name]
            if kind < 0.6:
                at = chance.randrange(len(names))
                counts = tuple(count + (place == at) for place, count in enumerate(counts))
            elif kind < 0.9:
                other = chance.choice([went[other] for other in names if sides(went[other], counts) in ("alike", "ahead")])
                counts = other
            went[name] = counts
            events.append(("goes", name, counts))
    return tuple(events)


class Knowing(unittest.TestCase):

    def holds(self, names, events):
        heard = [heard_behind(names, events[:many]) for many in range(len(events) + 1)]
        went = [{event[2] for event in events[:many] if event[0] == "goes"} for many in range(len(events) + 1)]
        lie = next((many - 1 for many, counts in enumerate(went) if is_lie(counts)), None)
        self.assertEqual(first_lie(names, events), lie)
        knows = [(name, next((many - 1 for many in range(len(heard)) if is_lie(heard[many][name])), None)) for name in names]
        self.assertEqual(knowing(names, events), tuple(row for row in knows if row[1] is not None))
        for name in names:
            self.assertEqual(heard_of(names, events, name), tuple(sorted(heard[-1][name])))
        return lie, knows

    def test_some_events(self):
        for seed in range(150):
            chance = random.Random(seed)
            names = chance.choice(NAMES)
            self.holds(names, some_events(names, chance, chance.choice((0, 3, 10, 30)), chance.choice((0.2, 0.6))))

    def test_chains(self):
        """Right ones are all chains that can be found; what is near to them is held against the list of these."""
        right = wrong = 0
        for seed in range(120):
            chance = random.Random(seed)
            names = chance.choice(NAMES)
            events = some_events(names, chance, 9)
            for name, number in self.holds(names, events)[1]:
                told = why_known(names, events, name)
                self.assertTrue(shows_why(names, events, name, told))
                chains = all_chains(events, name)
                if number is None:
                    row = told[1]
                    self.assertEqual((told[0], row), ("not", tuple(sorted(row, key=sum))))
                    self.assertTrue(all(sides(row[at], row[at + 1]) == "behind" for at in range(len(row) - 1)))
                    self.assertEqual(row, heard_of(names, events, name))
                else:
                    self.assertEqual((told[0], sides(chains[told[1]], chains[told[2]])), ("knows", "parted"))
                near = list(chains) + [chain[:at] + chain[at + 1:] for chain in chains for at in range(len(chain))]
                near += [chain[:at] + (other,) + chain[at + 1:] for chain in list(chains)[:4] for at in range(len(chain)) for other in range(-1, 10)]
                for one, other in [(chance.choice(near), chance.choice(near)) for _ in range(150)] if near else []:
                    is_right = number is not None and one in chains and other in chains and sides(chains[one], chains[other]) == "parted"
                    self.assertEqual(shows_why(names, events, name, ("knows", one, other)), is_right)
                    right, wrong = right + is_right, wrong + (not is_right)
        self.assertGreater(min(right, wrong), 100)

    def test_no_chains_at_all(self):
        names, events = NAMES[0], (("goes", "ann", (1, 0)), ("goes", "bob", (0, 1)), ("meets", "ann", "bob"))
        self.assertTrue(shows_why(names, events, "ann", ("knows", (0,), (1, 2))))
        for value in [("knows", (False,), (True, 2)), ("knows", (0,), (True, 2)), ("knows", [0], (1, 2)), ["knows", (0,), (1, 2)], ("knows", (0,), (1, 2), ()), ("knows", (0,)),
                      ("not", ((1, 0),)), ("knows", (), (1, 2)), ("knows", 0, (1, 2)), ("knows", (0,), (1, 3)), ("knows", (0,), (2, 1)), ("knows", (0,), (1,)), ("knows", (0,), (1, 2, 2)),
                      ("knows", (2,), (1, 2)), ("knows", (0, 1), (1, 2)), ("knows", (0,), (0,)), ("knows", ("0",), (1, 2)), ("Knows", (0,), (1, 2)), ("knows", (0, 2), (1, 2))]:
            self.assertIs(shows_why(names, events, "ann", value), False, value)
        for value in [("not", ((1, 0),)), ("not", [(1, 0)]), ("not", ((True, 0),)), ("not", ()), ("not", ((1, 0), (1, 0))), "not", ("knows", (0,), (1,))]:
            self.assertIs(shows_why(names, events[:2], "ann", value), value == ("not", ((1, 0),)) and type(value[1][0][0]) is int, value)
        for odd in odd_values():
            self.assertIs(shows_why(names, events, "ann", odd), False)
            self.assertIs(shows_why(names, events[:2], "bob", odd), False)
            self.assertIs(shows_why(names, events, "ann", ("knows", odd, (1, 2))), False)
            self.assertIs(shows_why(names, events, "ann", ("knows", (odd,), (1, 2))), type(odd) is int and odd == 0)

    def test_counts_that_are_all_0(self):
        """Nobody has heard of them, but by an event."""
        self.assertEqual(heard_of(NAMES[0], (), "ann"), ())
        self.assertEqual(heard_of(NAMES[0], (("goes", "ann", (0, 0)), ("meets", "ann", "bob")), "bob"), ((0, 0),))

    def test_three_hundred_events(self):
        names = NAMES[3]
        events = tuple(("goes", "a", (number, 0, 0, 0, 0)) for number in range(1, 150)) + (("meets", "a", "b"), ("goes", "c", (0, 0, 1, 0, 0)), ("meets", "c", "e")) + (("meets", "b", "e"),) * 148
        self.assertEqual(len(events), 300)
        self.assertEqual((first_lie(names, events), knowing(names, events)), (150, (("b", 152), ("e", 152))))
        self.assertEqual(len(heard_of(names, events, "e")), 150)
        self.assertTrue(shows_why(names, events, "e", why_known(names, events, "e")))
        self.assertTrue(shows_fewest(names, events, fewest_meetings(names, events)))
        self.assertTrue(raises_with(raised(first_lie, names, events + events[-1:]), BadEvents, None))


class Meetings(unittest.TestCase):

    def fewest(self, names, events, most):
        """The least number of meetings, by trying all sequences of them."""
        pairs = list(combinations(names, 2))
        for many in range(most + 1):
            for meetings in product(pairs, repeat=many):
                heard = heard_behind(names, events + tuple(("meets", *pair) for pair in meetings))
                if all(is_lie(heard[name]) for name in names):
                    return many
        return None

    def test_against_all_sequences(self):
        found = set()
        for seed in range(90):
            chance = random.Random(seed)
            names = NAMES[seed % 3]
            events = some_events(names, chance, chance.choice((4, 8)), chance.choice((0.1, 0.4)))
            told = fewest_meetings(names, events)
            self.assertTrue(shows_fewest(names, events, told))
            if first_lie(names, events) is None:
                self.assertIsNone(told)
                continue
            many = self.fewest(names, events, 4)
            self.assertEqual(told[0], many)
            self.assertLessEqual(many, {2: 1, 3: 3, 4: 4}[len(names)])
            found.add((len(names), many))
            pairs = list(combinations(names, 2))
            for meetings in [told[1], told[1][::-1], told[1][:-1]] + [tuple(chance.choice(pairs) for _ in range(many)) for _ in range(12)]:
                heard = heard_behind(names, events + tuple(("meets", *pair) for pair in meetings))
                is_right = len(meetings) == many and all(is_lie(heard[name]) for name in names)
                self.assertEqual(shows_fewest(names, events, (many, meetings)), is_right)
                self.assertFalse(shows_fewest(names, events, (many + 1, (*meetings, pairs[0]))))
        self.assertTrue({(2, 1), (3, 2), (4, 3), (3, 0)} <= found)

    def test_five_desks(self):
        """Only the counts of two desks are parted."""
        names = NAMES[3]
        both = (("goes", "b", (0, 1, 0, 0, 0)), ("goes", "d", (0, 0, 0, 1, 0)))
        told = fewest_meetings(names, both)
        self.assertTrue(shows_fewest(names, both, told))
        self.assertEqual((told[0], self.fewest(names, both, 3)), (4, None))
        heard = heard_behind(names, both + tuple(("meets", *pair) for pair in told[1]))
        self.assertTrue(all(is_lie(heard[name]) for name in names))

    def test_all_know_already(self):
        names, events = NAMES[0], (("goes", "ann", (1, 0)), ("goes", "bob", (0, 1)), ("meets", "ann", "bob"))
        self.assertEqual(fewest_meetings(names, events), (0, ()))
        for value, is_right in [((0, ()), True), ((False, ()), False), ((0, []), False), ([0, ()], False), (None, False), ((1, (("ann", "bob"),)), False), ((0,), False)]:
            self.assertIs(shows_fewest(names, events, value), is_right)

    def test_near_to_right_ones(self):
        names, events = NAMES[0], (("goes", "ann", (1, 0)), ("goes", "bob", (0, 1)))
        for value, is_right in [((1, (("ann", "bob"),)), True), ((True, (("ann", "bob"),)), False), ((1, (("bob", "ann"),)), False), ((1, [("ann", "bob")]), False),
                                ((1, (["ann", "bob"],)), False), ((1, (("ann", "ann"),)), False), ((1, (("ann", "cid"),)), False), ((1, (("ann",),)), False), ((1, ()), False),
                                ((1, (("ann", "bob"), ("ann", "bob"))), False), ((2, (("ann", "bob"), ("ann", "bob"))), False), ((1, (("ann", 1),)), False), ((1, ("ann", "bob")), False)]:
            self.assertIs(shows_fewest(names, events, value), is_right, value)
        for odd in odd_values():
            self.assertIs(shows_fewest(names, events, odd), False)
            self.assertIs(shows_fewest(names, events, (1, odd)), False)
            self.assertIs(shows_fewest(names, events, (1, (odd,))), False)
            self.assertIs(shows_fewest(names, (), odd), odd is None)


class Wrong(unittest.TestCase):

    def test_errors_in_their_order(self):
        names, events = NAMES[1], (("goes", "ann", (1, 0, 0)), ("meets", "ann", "bob"))
        calls = [(first_lie, ()), (knowing, ()), (heard_of, (None,)), (why_known, ("zed",)), (shows_why, (1, 2)), (fewest_meetings, ()), (shows_fewest, (3,))]
        for call, more in calls:
            for odd in odd_values() + [("ann",), ("bob", "ann")]:
                self.assertTrue(raises_with(raised(call, odd, 7, *more), BadNames, odd))
            for odd in odd_values() + [list(events)]:
                if not isinstance(odd, tuple) or len(odd) > 300:
                    self.assertTrue(raises_with(raised(call, names, odd, *more), BadEvents, None))
                self.assertTrue(raises_with(raised(call, names, (*events, odd, odd), *more), BadEvents, 2))
        for call, more in [(heard_of, ()), (why_known, ()), (shows_why, (5,))]:
            for odd in odd_values() + ["zed", ("ann",)]:
                if not (isinstance(odd, str) and odd == "ann"):
                    self.assertTrue(raises_with(raised(call, names, events, odd, *more), NoDesk, odd))

    def test_events_that_cannot_be(self):
        names = NAMES[0]
        went = (("goes", "ann", (1, 1)), ("goes", "bob", (1, 0)))
        for event in [("goes", "ann", (1, 0)), ("goes", "ann", (0, 2)), ("goes", "ann", (2, 0)), ("goes", "cid", (2, 2)), ("goes", "ann", (2, 2, 0)), ("goes", "ann", [2, 2]), ("goes", "ann", (2, True)),
                      ("goes", "ann"), ("goes", "ann", (2, 2), 1), ("meets", "bob", "ann"), ("meets", "ann", "ann"), ("meets", "ann", "cid"), ("meets", "ann"), ("Goes", "ann", (2, 2)),
                      ["goes", "ann", (2, 2)], ("goes", 1, (2, 2)), ("meets", "ann", 1), (1, "ann", "bob"), (["goes"], "ann", (2, 2)), ("goes", "ann", (10 ** 9 + 1, 2)), ("meets", "ann", "bob", 1)]:
            self.assertTrue(raises_with(raised(knowing, names, (*went, event)), BadEvents, 2), event)
        for event in [("goes", "ann", (1, 1)), ("goes", "ann", (10 ** 9, 1)), ("goes", "bob", (1, 0)), ("meets", "ann", "bob")]:
            self.assertIsNone(raised(knowing, names, (*went, event)))
        self.assertIs(shows_why(value=1, name="ann", events=went, names=names), False)


if __name__ == "__main__":
    unittest.main()
