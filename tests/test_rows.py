import random
import unittest

from lyinghouse.errors import BadCounts, BadNames, BadPast, BadRows, BadValue, NoDesk, NoRow, NotOwn, TooMany
from lyinghouse.rows import (
    common, ends, is_past, joined, made_on, parting, row_of, row_sides, rows_told, sides, stood_on,
)
from lyinghouse.values import is_value
from samples import nested, odd_values, raised, raises_with

NAMES = ("ann", "bob")
X = ("ann", 1, (1, 0), "x")
Y = ("bob", 1, (1, 1), "y")
Z = ("ann", 2, (2, 0), "z")
PAST = (X, Y, Z)
BAD_NAMES = odd_values() + [("ann",), ("bob", "ann"), ("ann", "ann"), ["ann", "bob"], ("a", "b", "c", "d", "e", "f"), ("ann", 1), ("ann", "Bob"), "ab"]
BAD_COUNTS = odd_values() + [(1,), (0, 0, 0), (0, -1), (0, 10 ** 9 + 1), (True, 0), (0, None), [0, 0], ("0", 0), (0, (0,))]


def grown(chance, names, many):
    """A past that desks made, who mostly stand on what they, or others, made last."""
    past, at = (), [(0,) * len(names) for _ in names]
    for _ in range(many):
        who = chance.randrange(len(names))
        seen = [thing[2] for thing in past if thing[2][who] == at[who][who] and sides(thing[2], at[who]) in ("ahead", "alike")]
        ground = chance.choice(seen + [at[who]])
        past = made_on(names, past, names[who], ground, ("deed", who))
        at[who] = past[-1][2]
    return past, tuple(at)


class Errors(unittest.TestCase):

    def bad(self, kind, value, call, *args):
        self.assertTrue(raises_with(raised(call, *args), kind, value), (call, args))

    def test_names_come_first(self):
        for odd in BAD_NAMES:
            self.bad(BadNames, odd, is_past, odd, ())
            self.bad(BadNames, odd, row_of, odd, None, None)
            self.bad(BadNames, odd, row_sides, odd, None, None, None)
            self.bad(BadNames, odd, parting, odd, None, None, None)
            self.bad(BadNames, odd, ends, odd, None)
            self.bad(BadNames, odd, stood_on, odd, None, None)
            self.bad(BadNames, odd, made_on, odd, None, None, None, [1])
            self.bad(BadNames, odd, rows_told, odd, None, None)

    def test_then_pasts(self):
        for odd in odd_values() + [[X], (Y,), (X, X), (Z,), (X, 1), (X, list(Y))]:
            if odd == () and type(odd) is tuple:
                continue
            self.bad(BadPast, odd, row_of, NAMES, odd, None)
            self.bad(BadPast, odd, row_sides, NAMES, odd, None, None)
            self.bad(BadPast, odd, parting, NAMES, odd, None, None)
            self.bad(BadPast, odd, ends, NAMES, odd)
            self.bad(BadPast, odd, stood_on, NAMES, odd, None)
            self.bad(BadPast, odd, made_on, NAMES, odd, None, None, [1])
            self.bad(BadPast, odd, rows_told, NAMES, odd, None)

    def test_then_counts(self):
        for odd in BAD_COUNTS:
            self.bad(BadCounts, odd, row_of, NAMES, PAST, odd)
            self.bad(BadCounts, odd, row_sides, NAMES, PAST, odd, None)
            self.bad(BadCounts, odd, row_sides, NAMES, PAST, (9, 9), odd)
            self.bad(BadCounts, odd, parting, NAMES, PAST, odd, None)
            self.bad(BadCounts, odd, parting, NAMES, PAST, (9, 9), odd)
            self.bad(BadCounts, odd, stood_on, NAMES, PAST, odd)
            self.bad(BadCounts, odd, made_on, NAMES, PAST, "ann", odd, [1])

    def test_counts_without_names(self):
        for call in (sides, joined, common):
            for odd in BAD_COUNTS:
                if odd == (0, 0, 0):
                    continue
                self.bad(BadCounts, odd, call, odd, None)
                self.bad(BadCounts, odd, call, (1, 2), odd)
            self.bad(BadCounts, (), call, (), ())
            self.bad(BadCounts, (1,) * 6, call, (1,) * 6, (1,) * 6)
            self.bad(BadCounts, (1, 2, 3), call, (1, 2), (1, 2, 3))
            self.bad(BadCounts, (1, 2), call, (1, 2, 3), (1, 2))
            self.assertIsNone(raised(call, (10 ** 9,) * 5, (0,) * 5))

    def test_then_rows(self):
        for counts in [(0, 1), (2, 1), (3, 0), (10 ** 9, 10 ** 9)]:
            self.assertIsNone(row_of(NAMES, PAST, counts))
            self.bad(NoRow, counts, row_sides, NAMES, PAST, counts, (5, 5))
            self.bad(NoRow, counts, row_sides, NAMES, PAST, (1, 1), counts)
            self.bad(NoRow, counts, parting, NAMES, PAST, counts, (5, 5))
            self.bad(NoRow, counts, parting, NAMES, PAST, (0, 0), counts)
            self.bad(NoRow, counts, stood_on, NAMES, PAST, counts)
            self.bad(NoRow, counts, made_on, NAMES, PAST, "bob", counts, [1])

    def test_what_cannot_be_made(self):
        for odd in odd_values() + ["cid", "", "Ann", ("ann",), ["ann"]]:
            if not (isinstance(odd, str) and odd == "ann"):
                self.bad(NoDesk, odd, made_on, NAMES, PAST, odd, None, [1])
        self.bad(NotOwn, 2, made_on, NAMES, PAST, "ann", (1, 1), [1])
        self.bad(NotOwn, 2, made_on, NAMES, PAST, "ann", (0, 0), [1])
        self.bad(NotOwn, 1, made_on, NAMES, PAST, "bob", (2, 0), [1])
        for odd in odd_values():
            if not is_value(odd):
                self.bad(BadValue, odd, made_on, NAMES, PAST, "ann", (2, 0), odd)
        full = tuple(("ann", number, (number, 0), None) for number in range(1, 1001))
        self.bad(TooMany, 1000, made_on, NAMES, full, "ann", (1000, 0), 1)
        self.bad(BadValue, True, made_on, NAMES, full, "ann", (1000, 0), True)
        self.assertEqual(len(made_on(NAMES, full[:999], "ann", (999, 0), 1)), 1000)
        self.bad(BadPast, (*full, X), ends, NAMES, (*full, X))

    def test_rows_that_cannot_be_told(self):
        for odd in odd_values() + [((2, 0),), ((2, 0), (1, 1), (1, 1)), [(2, 0), (1, 1)], ((2, 0), [1, 1]), ((1, 0), (1, 1)), ((2, 0), (2, 0)), ((2, 0), (2, 1)),
                                   ((1, 1), (1, 1)), ((2, 0), (0, 0)), ((2, 0), (True, 1)), ((2, 0), None), ((3, 0), (1, 1))]:
            self.bad(BadRows, odd, rows_told, NAMES, PAST, odd)


class Pasts(unittest.TestCase):

    def test_is_past(self):
        deep = ("ann", 1, (1, 0), nested(30, 1))
        for value, expected in [
            ((), True), ((X,), True), (PAST, True), (PAST[::-1], True), ((deep,), True), ([X], False), ((Y,), False), ((Z,), False), ((X, X), False),
            ((X, ("ann", 1, (1, 0), "other")), False), ((X, ("ann", 1, (1, 1), "y")), False), ((X, ("bob", 1, (1, 1), "y"), ("ann", 2, (2, 1), "z")), True),
            ((("ann", 2, (1, 0), "x"),), False), ((("ann", 0, (0, 0), "x"),), False), ((("cid", 1, (1, 0), "x"),), False), ((("ann", 1, (1, 0)),), False),
            ((("ann", 1, (1, 0), "x", 1),), False), ((["ann", 1, (1, 0), "x"],), False), ((("ann", True, (1, 0), "x"),), False),
            ((("ann", 1, (True, 0), "x"),), False), ((("ann", 1, (1, 0), True),), False), ((("ann", 1, (1, 0), [1]),), False), ((("ann", 1, [1, 0], "x"),), False),
            ((("ann", 1, (1, 0, 0), "x"),), False), ((("ann", 1, (1, 1), "x"),), False), ((("ann", 1, (1, 1), "x"), ("bob", 1, (1, 1), "y")), False),
            ((("ann", 1, (1, 0), "x"), ("bob", 1, (0, 1), "y")), True), ((X, ("bob", 1, (2, 1), "y")), False), (((["ann"], 1, (1, 0), "x"),), False),
            ((("bob", 1, (0, 1), nested(31, 1)),), False), ((("ann", 10 ** 9 + 1, (10 ** 9 + 1, 0), "x"),), False), (((0, 1, (1, 0), "x"),), False),
        ]:
            self.assertIs(is_past(NAMES, value), expected, value)
        for odd in odd_values():
            self.assertIs(is_past(NAMES, odd), odd == () and type(odd) is tuple)
            self.assertIs(is_past(NAMES, (X, odd)), False)
            self.assertIs(is_past(NAMES, (("ann", 1, (1, 0), odd),)), is_value(odd))
            self.assertIs(is_past(NAMES, ((odd, 1, (1, 0), 1),)), isinstance(odd, str) and odd == "ann")
            self.assertIs(is_past(NAMES, (("ann", odd, (1, 0), 1),)), type(odd) is int and odd == 1)
        long = tuple(("ann", number, (number, 0), None) for number in range(1, 1002))
        self.assertIs(is_past(NAMES, long), False)
        self.assertIs(is_past(NAMES, long[:1000]), True)

    def test_sides(self):
        for one, other, word in [((1, 2), (1, 2), "alike"), ((1, 2), (1, 1), "ahead"), ((1, 2), (0, 0), "ahead"), ((0, 2), (1, 2), "behind"), ((0, 2), (1, 1), "parted"),
                                 ((1, 0, 0), (0, 0, 1), "parted"), ((0, 0, 0, 0, 0), (0, 0, 0, 0, 1), "behind")]:
            self.assertEqual(sides(one, other), word)
        self.assertEqual((joined((1, 2, 3), (3, 2, 1)), common((1, 2, 3), (3, 2, 1))), ((3, 2, 3), (1, 2, 1)))

    def test_rows(self):
        self.assertEqual(row_of(NAMES, PAST, (1, 1)), (X, Y))
        self.assertEqual(row_of(NAMES, PAST, (2, 0)), (X, Z))
        self.assertEqual((row_of(NAMES, (), (0, 0)), row_of(NAMES, (), (1, 0))), ((), None))
        self.assertEqual(stood_on(NAMES, PAST, (0, 0)), (("ann", 1),))
        self.assertEqual((stood_on(NAMES, PAST, (1, 0)), stood_on(NAMES, PAST, (2, 0))), ((("ann", 2), ("bob", 1)), ()))
        self.assertEqual((ends(NAMES, PAST), ends(NAMES, ())), (((1, 1), (2, 0)), ()))
        self.assertEqual(rows_told(NAMES, PAST, ((2, 0), (1, 1))), (("ann", "bob", "parted"),))
        self.assertEqual(rows_told(NAMES, (), ((0, 0), (0, 0))), (("ann", "bob", "alike"),))
        self.assertEqual((parting(NAMES, PAST, (2, 0), (1, 1)), parting(NAMES, PAST, (2, 0), (0, 0))), ((1, 0), (0, 0)))

    def test_arguments_may_be_named(self):
        self.assertTrue(is_past(names=NAMES, value=PAST))
        self.assertEqual((sides(one=(1, 0), other=(1, 1)), joined(one=(1, 0), other=(0, 1)), common(one=(1, 0), other=(0, 1))), ("behind", (1, 1), (0, 0)))
        self.assertEqual(row_of(names=NAMES, past=PAST, counts=(1, 0)), (X,))
        self.assertEqual(row_sides(names=NAMES, past=PAST, one=(1, 0), other=(1, 1)), "behind")
        self.assertEqual(parting(names=NAMES, past=PAST, one=(2, 0), other=(1, 1)), (1, 0))
        self.assertEqual(ends(names=NAMES, past=PAST), ((1, 1), (2, 0)))
        self.assertEqual(stood_on(names=NAMES, past=PAST, counts=(1, 1)), ())
        self.assertEqual(made_on(names=NAMES, past=(X,), name="bob", counts=(1, 0), deed="y"), (X, Y))
        self.assertEqual(rows_told(names=NAMES, past=PAST, rows=((2, 0), (1, 1)))[0][2], "parted")


class All(unittest.TestCase):
    """What holds for all names and pasts."""

    def begins(self, row, other):
        return other[:len(row)] == row

    def test_rows_and_counts_tell_the_same(self):
        chance = random.Random(41)
        for names in [("a", "b"), ("a", "b", "c"), ("ann", "bob", "cid", "dan", "eve")]:
            for many in (1, 5, 12, 20):
                past, at = grown(chance, names, many)
                mixed = tuple(chance.sample(past, len(past)))
                self.assertTrue(is_past(names, mixed))
                counts = [(0,) * len(names)] + [thing[2] for thing in past]
                self.assertEqual(len(set(counts)), len(counts))
                rows = {one: row_of(names, mixed, one) for one in counts}
                for one in counts:
                    for place, name in enumerate(names):
                        self.assertEqual([thing[1] for thing in rows[one] if thing[0] == name], list(range(1, one[place] + 1)))
                    self.assertEqual(stood_on(names, mixed, one), tuple(sorted(
                        thing[:2] for thing in past if rows[thing[2]][:-1] == rows[one])))
                    for other in counts:
                        self.pair(names, mixed, one, other, rows)
                self.assertEqual(ends(names, mixed), tuple(sorted(
                    one for one in counts[1:] if not any(rows[other][:-1] == rows[one] for other in counts[1:]))))
                self.assertEqual(rows_told(names, mixed, at), tuple(
                    (names[one], names[other], sides(at[one], at[other])) for one in range(len(names)) for other in range(one + 1, len(names))))

    def pair(self, names, past, one, other, rows):
        word = "parted"
        if self.begins(rows[one], rows[other]) or self.begins(rows[other], rows[one]):
            word = {0: "alike", 1: "ahead", -1: "behind"}[(len(rows[one]) > len(rows[other])) - (len(rows[one]) < len(rows[other]))]
        self.assertEqual((row_sides(names, past, one, other), sides(one, other)), (word, word))
        shared = [thing for thing, its in zip(rows[one], rows[other]) if thing == its]
        self.assertEqual(parting(names, past, one, other), shared[-1][2] if shared else (0,) * len(names))
        self.assertEqual(parting(names, past, one, other), common(one, other))

    def test_what_is_made_later_leaves_rows(self):
        chance = random.Random(42)
        names = ("a", "b", "c")
        past, at = grown(chance, names, 40)
        for many in range(len(past)):
            for thing in past[:many]:
                self.assertEqual(row_of(names, past[:many], thing[2]), row_of(names, past, thing[2]))
        parted = [(one[2], other[2]) for one in past for other in past if sides(one[2], other[2]) == "parted"]
        for one, other in parted:
            self.assertFalse([thing for thing in past if min(sides(thing[2], one), sides(thing[2], other)) in ("ahead", "alike")
                              and {sides(thing[2], one), sides(thing[2], other)} <= {"ahead", "alike"}])


if __name__ == "__main__":
    unittest.main()
