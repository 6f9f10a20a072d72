import random
import unittest
from itertools import product

from lyinghouse.errors import BadEvents, BadNumber, BadRule
from lyinghouse.lesser import least_wrong, run_of, shows_least_wrong, wrong_words
from samples import odd_values, raised, raises_with

RULES = list(product((True, False), repeat=4))
WHOLE = (True, True, True, True)
WRONG = ("left", "twice", "suspected")


class Model:
    """Section 17, word by word: rows of statements as tuples of (name, which one it is of all)."""

    def __init__(self, rule, is_honest):
        self.own, self.others, self.ahead, self.turn = rule
        self.is_honest = is_honest
        self.rows = []
        self.by, self.hand, self.kept = {"a": (), "b": ()}, {"a": None, "b": None}, ()

    def copy(self):
        other = Model((self.own, self.others, self.ahead, self.turn), self.is_honest)
        other.rows, other.by, other.hand, other.kept = list(self.rows), dict(self.by), dict(self.hand), self.kept
        return other

    def key(self):
        return tuple(self.rows), tuple(self.by.items()), tuple(self.hand.items()), self.kept

    def counts(self, row):
        return tuple(sum(thing[0] == name for thing in row) for name in "ab")

    def events(self):
        """All events that can be now."""
        found = [("fall", "a"), ("fall", "b")]
        for name in "ab":
            is_free = self.by[name] == self.kept and set(self.hand.values()) == {None}
            if not (self.is_honest and self.turn) or is_free:
                found.append(("make", name))
            if self.hand[name] is not None:
                found.append(("hand", name))
            for number, row in enumerate(self.rows):
                if not self.is_honest or (row == self.kept and self.hand[name] is None):
                    found.append(("show", name, number))
        return found

    def do(self, event):
        word, name = event[:2]
        if word == "make":
            row = (*self.by[name], (name, len(self.rows)))
            mine = self.counts(row)["ab".index(name)]
            is_twice = any(other[-1][0] == name and self.counts(other)["ab".index(name)] == mine for other in self.rows)
            self.rows.append(row)
            self.by[name] = self.hand[name] = row
            return "twice" if is_twice else "made"
        if word == "hand":
            row, self.hand[name] = self.hand[name], None
            if row[:-1] == self.kept:
                self.kept = row
                return "kept"
            return "turned away"
        if word == "fall":
            if not self.ahead and self.hand[name] is not None:
                self.by[name], self.hand[name] = self.hand[name][:-1], None
            return "fallen"
        row, old, at = self.rows[event[2]], self.by[name], "ab".index(name)
        shown, mine = self.counts(row), self.counts(old)
        if (self.own and shown[at] != mine[at]) or (self.others and shown[1 - at] < mine[1 - at]):
            return "suspected" if self.is_honest else "refused"
        if row != old:
            self.by[name], self.hand[name] = row, None
        return "over" if row[:len(old)] == old else "left"

    def told(self, word):
        return word, self.counts(self.by["a"]), self.counts(self.by["b"])


def first_wrong(rule, depth):
    """For each of the three words the shortest runs whose first wrong event it is, among all runs of so many events."""
    found = {}
    for is_honest in (True, False):
        level = [(Model(rule, is_honest), ())]
        seen = {level[0][0].key()}
        for _ in range(depth):
            further = []
            for model, events in level:
                for event in model.events():
                    other = model.copy()
                    word = other.do(event)
                    if word in WRONG:
                        found.setdefault(word, (is_honest, (*events, event)))
                        if len(found[word][1]) > len(events) + 1:
                            found[word] = (is_honest, (*events, event))
                    elif other.key() not in seen:
                        seen.add(other.key())
                        further.append((other, (*events, event)))
            level = further
    return found


def some_run(rule, is_honest, chance, many):
    """Events of a run, and what is told of each."""
    model, events, told = Model(rule, is_honest), [], []
    for _ in range(many):
        ways = model.events()
        words = sorted({event[0] for event in ways})
        word = chance.choice(words)
        events.append(chance.choice([event for event in ways if event[0] == word]))
        told.append(model.told(model.do(events[-1])))
    return tuple(events), tuple(told)


class Runs(unittest.TestCase):

    def test_some_runs(self):
        for seed in range(160):
            chance = random.Random(seed)
            rule, is_honest = RULES[seed % 16], seed % 3 > 0
            events, told = some_run(rule, is_honest, chance, chance.choice((0, 10, 60)))
            self.assertEqual(run_of(rule, is_honest, events), told)
            model = Model(rule, is_honest)
            for number, event in enumerate(events[:25]):
                ways = model.events()
                for other in [(word, name) for word in ("make", "hand", "fall") for name in "ab"] + [("show", name, place) for name in "ab" for place in range(-1, 12)]:
                    error = raised(run_of, rule, is_honest, (*events[:number], other))
                    self.assertEqual(error is None, other in ways)
                    self.assertTrue(error is None or raises_with(error, BadEvents, number))
                model.do(event)

    def test_by_the_whole_rule_nothing_is_wrong(self):
        for seed in range(60):
            events, told = some_run(WHOLE, seed % 2 == 0, random.Random(seed), 200)
            self.assertEqual(run_of(WHOLE, seed % 2 == 0, events), told)
            self.assertFalse({row[0] for row in told} & set(WRONG))
        self.assertEqual((least_wrong(WHOLE), wrong_words(WHOLE)), (None, ()))
        self.assertEqual(first_wrong(WHOLE, 8), {})

    def test_a_desk_that_refuses_and_one_that_waits_for_nobody(self):
        events = (("make", "a"), ("make", "b"), ("hand", "b"), ("hand", "a"), ("show", "a", 1))
        self.assertEqual([row[0] for row in run_of((True, True, True, False), True, events)], ["made", "made", "kept", "turned away", "suspected"])
        self.assertTrue(raises_with(raised(run_of, WHOLE, True, events), BadEvents, 1))
        self.assertEqual([row[0] for row in run_of(WHOLE, False, events)], ["made", "made", "kept", "turned away", "refused"])
        self.assertEqual(run_of(rule=WHOLE, events=(), is_honest=False), ())


class LeastWrong(unittest.TestCase):

    def test_each_rule(self):
        for rule in RULES:
            found = first_wrong(rule, 8)
            self.assertEqual(tuple(sorted(found)), wrong_words(rule))
            told = least_wrong(rule)
            if rule == WHOLE:
                continue
            least = min(len(events) for _, events in found.values())
            self.assertEqual(len(told[1]), least)
            words = [row[0] for row in run_of(rule, *told)]
            self.assertTrue(words[-1] in WRONG and not set(words[:-1]) & set(WRONG))
            self.assertTrue(shows_least_wrong(rule, told))
            for run in found.values():
                self.assertEqual(shows_least_wrong(rule, run), len(run[1]) == least)

    def test_long_runs_have_no_other_words(self):
        for seed in range(320):
            rule = RULES[seed % 16]
            _, told = some_run(rule, seed % 3 > 0, random.Random(seed), 60)
            word = next((row[0] for row in told if row[0] in WRONG), None)
            self.assertIn(word, (None, *wrong_words(rule)))

    def test_near_to_right_ones(self):
        blind = (False, True, True, True)
        run = (("make", "a"), ("make", "b"), ("show", "a", 1))
        for value, is_right in [((False, run), True), ((0, run), False), ((True, run), False), ([False, run], False), ((False, list(run)), False), ((False, run[:2]), False), ((False, (*run, run[2])), False),
                                ((False, (*run[:2], ("show", "a", True))), False), ((False, (*run[:2], ("show", "b", 0))), True), ((False, (*run[:2], ("show", "b", 1))), False),
                                ((False, (*run[:2], ["show", "a", 1])), False), ((False,), False), ((False, run, 1), False), (None, False), ((False, (run[1], run[0], run[2])), False),
                                ((False, (("make", "b"), ("make", "a"), ("show", "b", 1))), True), ((False, (*run[:2], ("show", "a", 2))), False), ((None, run), False)]:
            self.assertIs(shows_least_wrong(blind, value), is_right, value)
        for odd in odd_values():
            self.assertIs(shows_least_wrong(blind, odd), False)
            self.assertIs(shows_least_wrong(blind, (False, odd)), False)
            self.assertIs(shows_least_wrong(blind, (odd, run)), type(odd) is bool and not odd)
            self.assertIs(shows_least_wrong(blind, (False, (*run[:2], odd))), False)
            self.assertIs(shows_least_wrong(WHOLE, odd), odd is None)


class Wrong(unittest.TestCase):

    def test_errors_in_their_order(self):
        for odd in odd_values() + [(True,) * 3, (True,) * 5, [True] * 4, (True, True, True, 1), (1, 1, 1, 1), (None,) * 4]:
            for call, more in [(run_of, (7, 7)), (least_wrong, ()), (shows_least_wrong, (7,)), (wrong_words, ())]:
                self.assertTrue(raises_with(raised(call, odd, *more), BadRule, odd))
        for odd in odd_values():
            if not isinstance(odd, bool):
                self.assertTrue(raises_with(raised(run_of, WHOLE, odd, 7), BadNumber, odd))
            if not isinstance(odd, tuple):
                self.assertTrue(raises_with(raised(run_of, WHOLE, True, odd), BadEvents, None))
            self.assertTrue(raises_with(raised(run_of, WHOLE, True, (("make", "a"), odd, odd)), BadEvents, 1))
        self.assertEqual(len(run_of(WHOLE, True, (("fall", "a"),) * 200)), 200)
        self.assertTrue(raises_with(raised(run_of, WHOLE, True, (("fall", "a"),) * 201), BadEvents, None))

    def test_events_that_cannot_be(self):
        for event in [("make", "c"), ("make",), ("make", "a", 0), ("make", ["a"]), ("make", 0), ("fall", "ab"), ("fall", ""), ("show", "a"), ("show", "a", 1), ("show", "a", -1), ("show", "a", False),
                      ("show", "a", "0"), ("show", "a", 0, 0), ("hand", "b"), ("Make", "a"), (["make"], "a"), "make", ["make", "a"]]:
            self.assertTrue(raises_with(raised(run_of, WHOLE, False, (("make", "a"), event)), BadEvents, 1), event)


if __name__ == "__main__":
    unittest.main()
