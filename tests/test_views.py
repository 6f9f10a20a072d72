import random
import unittest
from itertools import product

from honest import a_house
from lyinghouse.desk import Desk
from lyinghouse.errors import BadCounts, BadNames, BadTellings, Never, NoDesk, NoRow
from lyinghouse.plain import PlainTree, played
from lyinghouse.rows import is_past, row_of, sides
from lyinghouse.views import (
    are_tellings, first_apart, house_day, is_house_day, judged_tellings, past_of, tree_told, worlds_of,
)
from samples import odd_values, raised, raises_with

NAMES = ("ann", "bob")


class Model:
    """Section 15, word by word."""

    def __init__(self, names, tellings):
        self.names, self.tellings = names, tellings

    def ahead(self, at, number):
        return self.tellings[at][number - 1][2] if number else (0,) * len(self.names)

    def made(self, at, number):
        return self.tellings[at][number][2][at] == self.ahead(at, number)[at] + 1

    def ground(self, at, number):
        counts = self.tellings[at][number][2]
        return tuple(count - (1 if place == at and self.made(at, number) else 0) for place, count in enumerate(counts))

    def maker(self, counts):
        """The event that counts for these counts; None if there is none."""
        for at in range(len(self.names)):
            for number, event in enumerate(self.tellings[at]):
                if event[2] == counts and self.made(at, number) and self.row(self.ground(at, number)) is not None:
                    return at, number
        return None

    def row(self, counts):
        if sum(counts) == 0:
            return ()
        maker = self.maker(counts)
        return None if maker is None else (*self.row(self.ground(*maker)), maker)

    def tree(self, counts):
        return played(tuple(self.tellings[at][number][0] for at, number in self.row(counts)))[1]

    def why(self, at, number):
        deed, answer, counts = self.tellings[at][number]
        ahead = self.ahead(at, number)
        if any(its < before or (place == at and its > before + 1) for place, (before, its) in enumerate(zip(ahead, counts))):
            return "counts"
        if self.row(self.ground(at, number)) is None:
            return "ground"
        tree = self.tree(self.ground(at, number))
        if not (self.made(at, number) if answer is None else repr(answer) == repr(tree.answer(deed))):
            return "answer"
        before = tree.text
        tree.done(deed)
        return None if self.made(at, number) == (tree.text != before) else "made"

    def lasts(self):
        return [events[-1][2] if events else (0,) * len(self.names) for events in self.tellings]

    def judged(self):
        for at, name in enumerate(self.names):
            for number in range(len(self.tellings[at])):
                if self.why(at, number):
                    return "never", name, number, self.why(at, number)
        lasts = self.lasts()
        if all(sides(one, other) != "parted" for one in lasts for other in lasts):
            return "one", max(lasts, key=sum)
        return "parted", tuple(sorted({one for one in lasts if not any(sides(other, one) == "ahead" for other in lasts)}))

    def is_day(self, value):
        places = [(name, number) for at, name in enumerate(self.names) for number in range(len(self.tellings[at]))]
        if not isinstance(value, tuple) or sorted(value) != sorted(places):
            return False
        for here, (name, number) in enumerate(value):
            maker = self.maker(self.ground(self.names.index(name), number))
            wanted = [(name, before) for before in range(number)] + ([(self.names[maker[0]], maker[1])] if maker else [])
            if not all(place in value[:here] for place in wanted):
                return False
        return True


DEEDS = [("write", "/n", "x"), ("write", "/n", "y"), ("make", "/f"), ("make", "/n"), ("cut", "/n", 0), ("remove", "/n"), ("read", "/n"), ("list", "/"), ("look", "/f"), ("put", "/n", 1, "z")]


def some_tellings(names, chance, many):
    """What right desks tell, whom somebody leads to whatever row they may go over to."""
    trees = {(0,) * len(names): PlainTree()}
    events, counts = [[] for _ in names], [(0,) * len(names) for _ in names]
    silent = set()
    for _ in range(many):
        at = chance.randrange(len(names))
        if at in silent:
            continue
        ways = [one for one in trees if sides(one, counts[at]) in ("alike", "ahead") and one[at] == counts[at][at]]
        ground, deed = chance.choice(ways), chance.choice(DEEDS)
        tree = trees[ground].copy()
        answer = tree.done(deed)
        counts[at] = ground
        if tree != trees[ground]:
            counts[at] = tuple(count + (place == at) for place, count in enumerate(ground))
            trees[counts[at]] = tree
            if chance.random() < 0.05:
                silent.add(at)
                answer = None
        events[at].append((deed, answer, counts[at]))
    return tuple(tuple(part) for part in events)


ODD_ANSWERS = [("done",), ("no", "missing"), ("no", "taken"), ("text", "x"), ("text", ""), ("names", ("n",)), ("names", ()), ["done"], "done", ("done", 1), True, {}, 0, None,
               ("folder", False), PlainTree(), ("names", ["n"])]


def bends(tellings, names, chance):
    """The tellings with one event bent in every way, or left out, or twice there."""
    for at, events in enumerate(tellings):
        for number, (deed, answer, counts) in enumerate(events):
            others = [(chance.choice(DEEDS), answer, counts), (deed, chance.choice(ODD_ANSWERS), counts)]
            for place in range(len(names)):
                for more in (-1, 1, 2):
                    if counts[place] + more >= 0:
                        others.append((deed, answer, (*counts[:place], counts[place] + more, *counts[place + 1:])))
            for parts in [(other,) for other in others] + [(), (events[number],) * 2]:
                bent = (*events[:number], *parts, *events[number + 1:])
                yield (*tellings[:at], bent, *tellings[at + 1:])


class Judging(unittest.TestCase):

    def holds(self, names, tellings):
        if not are_tellings(names, tellings):
            return None
        model = Model(names, tellings)
        told = judged_tellings(names, tellings)
        self.assertEqual(told, model.judged(), tellings)
        if told[0] == "never":
            zero = (0,) * len(names)
            for call, args in [(past_of, ()), (tree_told, (zero,)), (tree_told, (None,)), (worlds_of, ()), (first_apart, names[:2]), (first_apart, ("zed", 1)),
                               (house_day, ()), (is_house_day, (None,))]:
                self.assertTrue(raises_with(raised(call, names, tellings, *args), Never, told))
        else:
            self.holds_more(names, tellings, model, told)
        return told

    def holds_more(self, names, tellings, model, told):
        past = past_of(names, tellings)
        makers = {(name, number): model.tellings[at][number] for at, name in enumerate(names) for number in range(len(tellings[at])) if model.made(at, number)}
        self.assertTrue(is_past(names, past))
        self.assertEqual(list(past), sorted(past, key=lambda thing: (sum(thing[2]), thing[0])))
        self.assertEqual(sorted((thing[0], thing[2], thing[3]) for thing in past), sorted((name, event[2], event[0]) for (name, _), event in makers.items()))
        lasts = model.lasts()
        ends = (told[1],) if told[0] == "one" else told[1]
        self.assertEqual(worlds_of(names, tellings), tuple(
            (end, tuple(name for name, last in zip(names, lasts) if sides(last, end) in ("alike", "behind"))) for end in ends))
        for counts in [(0,) * len(names)] + [thing[2] for thing in past]:
            self.assertEqual(tree_told(names, tellings, counts), played(tuple(thing[3] for thing in row_of(names, past, counts)))[1])
        for one, other in product(range(len(names)), repeat=2):
            self.holds_apart(names, tellings, model, one, other)
        day = house_day(names, tellings)
        self.assertTrue(model.is_day(day) and is_house_day(names, tellings, day))

    def holds_apart(self, names, tellings, model, one, other):
        told = first_apart(names, tellings, names[one], names[other])
        rows = [model.row(model.lasts()[at]) for at in (one, other)]
        shared = 0
        while shared < min(map(len, rows)) and rows[0][shared] == rows[1][shared]:
            shared += 1
        if shared == min(map(len, rows)):
            self.assertIsNone(told)
            return
        last = rows[0][shared - 1] if shared else None
        counts = tellings[last[0]][last[1]][2] if last else (0,) * len(names)
        firsts = [next(number for number, event in enumerate(tellings[at]) if len(model.row(event[2])) > shared) for at in (one, other)]
        self.assertEqual(told, (counts, *firsts))

    def test_small_counts_of_every_kind(self):
        """All pairs of up to two events of both desks, of few kinds."""
        kinds = [(deed, answer, counts) for deed, answer in [(DEEDS[0], ("done",)), (DEEDS[0], None), (DEEDS[6], ("text", "x")), (DEEDS[6], ("no", "missing"))]
                 for counts in product((0, 1, 2), (0, 1))]
        firsts = [()] + [(one,) for one in kinds] + [(one, other) for one in kinds for other in kinds if one[1] is not None]
        words = set()
        chance = random.Random(41)
        for ann in firsts:
            for bob in chance.sample(firsts, 12):
                told = self.holds(NAMES, (ann, bob))
                words.add(told[-1] if told[0] == "never" else told[0])
        self.assertEqual(words, {"counts", "ground", "answer", "made", "one", "parted"})

    def test_right_desks_and_bent_events(self):
        words = {}
        for seed in range(45):
            chance = random.Random(seed)
            names = (NAMES, ("a", "b", "c"), ("a", "b", "c", "d", "e"))[seed % 3]
            tellings = some_tellings(names, chance, chance.choice((5, 12, 18)))
            told = self.holds(names, tellings)
            self.assertNotEqual(told[0], "never")
            words[told[0]] = True
            for bent in bends(tellings, names, chance):
                told = self.holds(names, bent)
                if told is not None:
                    words[told[-1] if told[0] == "never" else told[0]] = True
        self.assertEqual(sorted(words), ["answer", "counts", "ground", "made", "one", "parted"])

    def test_what_can_be_is_brought_about(self):
        """Copies of an honest house, one for each row, bring about just what was told; one house, where it is one."""
        for seed in range(25):
            chance = random.Random(1000 + seed)
            names = (NAMES, ("a", "b", "c"))[seed % 2]
            tellings = some_tellings(names, chance, 14)
            model = Model(names, tellings)
            houses, desks = {(0,) * len(names): a_house(names, 1000)}, [Desk(name, names, 40, 400) for name in names]
            for name, number in house_day(names, tellings):
                at = names.index(name)
                deed, answer, counts = tellings[at][number]
                house, desk = houses[model.ground(at, number)].copy(), desks[at]
                told = ("say", desk.ask(deed))
                while told[0] == "say":
                    heard = house.hear(name, told[1])
                    is_last = answer is None and desk.counts == counts
                    told = ("silent", None) if is_last else desk.hear(heard)
                self.assertEqual(told, ("silent", None) if answer is None else ("done", answer))
                self.assertEqual((desk.counts, house.counts), (counts, counts))
                houses.setdefault(counts, house)

    def test_an_answer_is_just_this_one(self):
        ann = ((DEEDS[0], ("done",), (1, 0)), (("look", "/n"), ("file", 1, 1), (1, 0)))
        self.assertEqual(judged_tellings(NAMES, (ann, ())), ("one", (1, 0)))
        for answer in (("file", 1, True), ("file", True, 1), ["file", 1, 1], ("file", 1, [1]), ("file", 1), ("file", "1", 1), {}, True, PlainTree()):
            self.assertEqual(judged_tellings(NAMES, ((ann[0], (("look", "/n"), answer, (1, 0))), ())), ("never", "ann", 1, "answer"))

    def test_four_hundred_events(self):
        deeds = [("write", f"/{number}", "x" * number) for number in range(199)] + [("make", "/f")]
        ann = tuple((deed, ("done",), (number + 1, 0)) for number, deed in enumerate(deeds))
        bob = tuple((("look", "/"), ("folder", number), (number, 0)) for number in range(1, 201))
        self.assertEqual(judged_tellings(NAMES, (ann, bob)), ("one", (200, 0)))
        self.assertEqual(len(past_of(NAMES, (ann, bob))), 200)
        self.assertEqual(tree_told(NAMES, (ann, bob), (200, 0)), played(tuple(deeds))[1])
        self.assertTrue(is_house_day(NAMES, (ann, bob), house_day(NAMES, (ann, bob))))
        self.assertFalse(are_tellings(NAMES, (ann, (*bob, bob[-1]))))
        deep = tuple((("write", "/n", str(number)), ("done",), (number + 1, 0)) for number in range(400))
        self.assertEqual(judged_tellings(NAMES, (deep, ())), ("one", (400, 0)))
        back = tuple((deed, answer, (0, counts[0])) for deed, answer, counts in deep[:200])
        self.assertEqual(first_apart(NAMES, (deep[:200], back), "ann", "bob"), ((0, 0), 0, 0))


class HouseDays(unittest.TestCase):

    def test_any_sequence(self):
        chance = random.Random(43)
        found = {True: 0, False: 0}
        for seed in range(60):
            tellings = some_tellings(NAMES, random.Random(seed), 7)
            model = Model(NAMES, tellings)
            day = list(house_day(NAMES, tellings))
            for _ in range(12):
                at = chance.randrange(max(len(day) - 1, 1))
                day[at:at + 2] = day[at:at + 2][::-1] if chance.random() < 0.7 else day[at:at + 2]
                is_day = is_house_day(NAMES, tellings, tuple(day))
                self.assertEqual(is_day, model.is_day(tuple(day)))
                found[is_day] += 1
                day = day if is_day else list(house_day(NAMES, tellings))
        self.assertGreater(min(found.values()), 100)

    def test_near_to_right_ones(self):
        ann = ((DEEDS[0], ("done",), (1, 0)), (DEEDS[6], ("text", "x"), (1, 0)))
        bob = ((DEEDS[6], ("text", "x"), (1, 0)),)
        day = (("ann", 0), ("ann", 1), ("bob", 0))
        for value, is_day in [(day, True), (day[:2], False), ((*day, day[0]), False), ((*day[:2], day[1]), False), (list(day), False), ((*day[:2], ["bob", 0]), False),
                              ((("ann", False), *day[1:]), False), ((day[0], ("ann", True), day[2]), False), ((day[0], day[2], day[1]), True), (day[::-1], False),
                              ((day[2], *day[:2]), False), ((*day[:2], ("bob", 1)), False), ((*day[:2], ("bob", -1)), False), ((*day[:2], ("cid", 0)), False),
                              ((*day[:2], ("bob", 0, 0)), False), ((*day[:2], "bob"), False), ((*day[:2], (["bob"], 0)), False)]:
            self.assertIs(is_house_day(NAMES, (ann, bob), value), is_day, value)
        for odd in odd_values():
            self.assertIs(is_house_day(NAMES, (ann, bob), odd), False)
            self.assertIs(is_house_day(NAMES, ((), ()), odd), odd == () and isinstance(odd, tuple))


class Wrong(unittest.TestCase):

    def test_tellings(self):
        event = (DEEDS[0], ("done",), (1, 0))
        silent = (DEEDS[0], None, (1, 0))
        for value, expected in [(((), ()), True), (((event,), ()), True), (((silent,), ()), True), (((event, silent), (silent,)), True), (((silent, event), ()), False), (((event,),), False),
                                (((event,), (), ()), False), ([(event,), ()], False), (([event], ()), False), (((list(event),), ()), False), (((event[:2],), ()), False),
                                (((("look",), None, (0, 0)),), False), ((((["look", "/"]), 1, (0, 0)),), False), (((event[0], 1, (0,)),), False),
                                ((((event[0], 1, (0, True)),), ()), False), ((((event[0], 1, (0, -1)),), ()), False), ((((event[0], 1, (0, 0, 0)),), ()), False),
                                ((((event[0], 1, [0, 0]),), ()), False), ((((event[0], [{}], (10 ** 9, 0)),), ()), True), ((((event[0], 1, (10 ** 9 + 1, 0)),), ()), False)]:
            self.assertIs(are_tellings(NAMES, value), expected, value)
        for odd in odd_values():
            self.assertIs(are_tellings(NAMES, odd), False)
            self.assertIs(are_tellings(NAMES, ((odd,), ())), False)
            self.assertIs(are_tellings(NAMES, (((event[0], odd, (1, 0)),), ())), True)
            self.assertIs(are_tellings(NAMES, (((odd, ("done",), (1, 0)),), ())), False)
            self.assertIs(are_tellings(NAMES, (((event[0], ("done",), odd),), ())), False)

    def test_errors_in_their_order(self):
        calls = [(judged_tellings, ()), (past_of, ()), (tree_told, (None,)), (worlds_of, ()), (first_apart, (1, 2)), (house_day, ()), (is_house_day, (1,))]
        for odd in odd_values() + [("ann",), ("bob", "ann")]:
            for call, args in [*calls, (are_tellings, ())]:
                told = args if call is not are_tellings else ()
                self.assertTrue(raises_with(raised(call, odd, "no tellings", *told), BadNames, odd))
            for call, args in calls:
                self.assertTrue(raises_with(raised(call, NAMES, odd, *args), BadTellings, odd))
        whole = (((DEEDS[0], ("done",), (1, 0)),), ())
        for odd in odd_values() + [(1,), (1, 0, 0), [1, 0], (1, -1), (True, 0)]:
            self.assertTrue(raises_with(raised(tree_told, NAMES, whole, odd), BadCounts, odd))
        for odd in odd_values() + ["cid"]:
            if not (isinstance(odd, str) and odd == "ann"):
                self.assertTrue(raises_with(raised(first_apart, NAMES, whole, odd, "zed"), NoDesk, odd))
                self.assertTrue(raises_with(raised(first_apart, NAMES, whole, "bob", odd), NoDesk, odd))
        for counts in ((0, 1), (2, 0), (1, 1)):
            self.assertTrue(raises_with(raised(tree_told, NAMES, whole, counts), NoRow, counts))
        self.assertEqual(tree_told(counts=(0, 0), tellings=whole, names=NAMES), PlainTree())

    def test_a_tree_is_ones_own(self):
        whole = (((DEEDS[0], ("done",), (1, 0)),), ())
        tree_told(NAMES, whole, (1, 0)).done(("remove", "/n"))
        self.assertEqual(tree_told(NAMES, whole, (1, 0)).paths(), ("/n",))


if __name__ == "__main__":
    unittest.main()
