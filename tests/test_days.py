import random
import unittest

from lyinghouse.days import Day, day_report, plain_day
from lyinghouse.errors import BadDay, DayOver, NoName
from lyinghouse.known import knowing
from lyinghouse.plain import PlainTree, changes
from lyinghouse.rows import joined, sides
from lyinghouse.shell import Shell
from samples import odd_values, raised, raises_with
from test_shell import some_line


class Model:
    """Section 19, word by word: counts, trees and floors alone, without any desk or house."""

    def __init__(self, text):
        self.rows = text.split("\n")
        self.names = tuple(self.rows[0].split(" ")[1:])
        zero = (0,) * len(self.names)
        self.trees = {zero: PlainTree()}
        self.counts = {name: zero for name in self.names}
        self.floors = dict(self.counts)
        self.cheated = set()
        self.shells = {name: Shell() for name in self.names}
        self.led, self.events = {}, []

    def line(self, row):
        words = row.split(" ")
        word = words[0]
        if word == "house":
            self.counts[words[1]] = (0,) * len(self.names)
        elif word == "copy":
            self.counts[words[2]] = self.counts[words[1]]
        elif word == "lead":
            self.led[words[1]] = words[2]
        elif word == "type":
            return self.typed(words[1], row.split(" ", 2)[2])
        elif word == "amid":
            return self.typed(words[2], row.split(" ", 3)[3])
        elif word == "meet":
            return self.meet(words[1], words[2])
        elif word == "state":
            name = words[1]
            return (f"{name}: {' '.join(map(str, self.counts[name]))} at {self.led.get(name, 'nowhere')} in {self.shells[name].place}{' cheated' if name in self.cheated else ''}",)
        elif word == "knows":
            return (" ".join(["knows"] + [name for name, _ in knowing(self.names, tuple(self.events))]),)
        return ()

    def typed(self, name, line):
        if name in self.cheated:
            return (f"{name}: cheated",)
        before, shell = self.counts[name], self.shells[name].copy()
        told = shell.line(line)
        while told[0] == "wants":
            house = self.led.get(name)
            if house is None:
                return (f"{name}: nowhere",)
            if sides(self.counts[house], self.counts[name]) not in ("alike", "ahead"):
                self.cheated.add(name)
                return (f"{name}: cheated",)
            if sides(self.counts[house], self.floors[name]) not in ("alike", "ahead"):
                return (f"{name}: waits",)
            told = shell.hear(self.done(name, house, told[1]))
        self.shells[name] = shell
        if self.counts[name] != before:
            self.events.append(("goes", name, self.counts[name]))
        return tuple(f"{name}| {shown}" for shown in told[1])

    def done(self, name, house, deed):
        tree = self.trees[self.counts[house]].copy()
        answer = tree.done(deed)
        counts = self.counts[house]
        if changes(deed) and tree != self.trees[counts]:
            counts = tuple(count + (other == name) for other, count in zip(self.names, counts))
            self.trees[counts] = tree
        self.counts[name] = self.counts[house] = counts
        return answer

    def meet(self, one, other):
        word = sides(self.counts[one], self.counts[other])
        self.events.append(("meets", one, other))
        if word == "parted":
            self.cheated |= {one, other}
        if word == "behind":
            self.floors[one] = joined(self.floors[one], self.counts[other])
        if word == "ahead":
            self.floors[other] = joined(self.floors[other], self.counts[one])
        return (f"{one} {other}: {word}",)


def some_script(chance, many, copies=True):
    """A script in which desks are led to houses, lied to, and meet."""
    names = chance.choice((("ann", "bob"), ("ann", "bob", "cid"), ("a", "b", "c", "d", "e")))
    rows, houses, room = ["desks " + " ".join(names), "house h"], ["h"], 60
    rows += [f"lead {name} h" for name in names if chance.random() < 0.9]
    while len(rows) < many:
        kind, name = chance.random(), chance.choice(names)
        if kind < 0.62:
            line = some_line(chance)[:200]
            room -= any(line.strip().startswith(word) for word in ("mkdir", "ln", "write", "add", "cp"))
            if room > 0:
                rows.append(chance.choice((f"type {name} {line}", f"type {name} {line}", f"amid {chance.randrange(21)} {name} {line}")))
        elif kind < 0.72:
            rows.append(chance.choice(("fall", "pack")) + " " + chance.choice((*names, *houses)))
        elif kind < 0.8:
            rows.append("meet " + " ".join(sorted(chance.sample(names, 2))))
        elif kind < 0.88:
            rows.append(chance.choice(("knows", f"state {name}")))
        elif kind < 0.93 and copies and len(houses) < 6:
            houses.append("k" * (len(houses) + 1) + "x")
            rows.append(chance.choice((f"copy {chance.choice(houses[:-1])} {houses[-1]}", f"copy h {houses[-1]}", f"house {houses[-1]}")))
        elif copies or len(houses) == 1:
            rows.append(f"lead {name} {chance.choice(houses)}")
    return "\n".join(rows[:many])


class Days(unittest.TestCase):

    def holds(self, text):
        """Each line shows what the model shows; counts and trees are as there."""
        day, model, shown, parted = Day(text), Model(text), (), set()
        self.assertEqual((day.text, day.at, day.names, day.houses), (text, 0, (), ()))
        for number, row in enumerate(model.rows, 1):
            before = dict(model.counts)
            told = day.go_on()
            self.assertEqual(told, model.line(row), (number, row))
            shown += told
            self.assertEqual((day.at, day.names, day.houses), (number, model.names, tuple(sorted(name for name in model.counts if name not in model.names))))
            for name, counts in model.counts.items():
                self.assertEqual(day.counts_of(name), counts)
                if number % 5 == 0:
                    self.assertEqual(day.tree_of(name), model.trees[counts])
                self.assertIn(sides(counts, before.get(name, counts)), ("alike", "ahead"))
            for one in model.names:
                for other in model.names:
                    is_parted = sides(model.counts[one], model.counts[other]) == "parted"
                    self.assertTrue(is_parted or (one, other) not in parted)
                    parted |= {(one, other)} if is_parted else set()
        self.assertTrue(raises_with(raised(day.go_on), DayOver, len(model.rows)))
        self.assertEqual(day.at, len(model.rows))
        return shown, model

    def test_some_scripts(self):
        words = set()
        for seed in range(30):
            text = some_script(random.Random(seed), 70)
            shown, model = self.holds(text)
            words |= {row.split(": ", 1)[1].split(" ")[0] for row in shown if ": " in row and "|" not in row}
            words |= {"knows"} if any(row.startswith("knows ") for row in shown) else set()
            if seed % 3 == 0:
                self.assertEqual(day_report(text), shown)
                self.assertEqual(day_report(plain_day(text)), shown)
        self.assertTrue({"cheated", "waits", "nowhere", "parted", "behind", "ahead", "alike", "knows"} <= words, words)

    def test_one_house_cheats_nobody(self):
        for seed in range(12):
            shown, model = self.holds(some_script(random.Random(200 + seed), 60, copies=False))
            self.assertFalse([row for row in shown if row.endswith("cheated")])
            self.assertEqual(model.cheated, set())

    def test_two_hundred_lines(self):
        rows = ["desks ann bob", "house h", "lead ann h", "lead bob h"] + [f"type ann mkdir d{number}" for number in range(60)]
        rows += ["amid 20 bob find", "fall h", "type ann ls"] * 45
        text = "\n".join((rows + ["knows"] * 20)[:200])
        self.assertEqual(len(text.split("\n")), 200)
        found = tuple(sorted(f"d{number}" for number in range(60)))
        lines = ("bob| /", *(f"bob| /{name}" for name in found), *(f"ann| {name}" for name in found))
        self.assertEqual(day_report(text), lines * 45 + ("knows",))

    def test_where_a_line_is_left(self):
        """The shell stands as ahead of it, and so do desk and house where the desk waits."""
        rows = ["desks ann bob", "house h", "type ann cd a", "state ann", "type ann pwd", "type ann ", "type ann dir", "lead ann h", "lead bob h", "copy h k", "type ann mkdir a", "type ann cd a",
                "meet ann bob", "lead bob k", "type bob mkdir b", "amid 9 bob ls", "state bob", "lead bob h", "type bob mkdir b", "state bob", "lead ann k", "type ann cp x y", "type ann pwd", "state ann"]
        self.assertEqual(day_report("\n".join(rows)), (
            "ann: nowhere", "ann: 0 0 at nowhere in /", "ann| /", "ann| dir: unknown", "ann bob: ahead", "bob: waits", "bob: waits", "bob: 0 0 at k in /", "bob: 1 1 at h in /",
            "ann: cheated", "ann: cheated", "ann: 1 0 at k in /a cheated"))
        self.holds("\n".join(rows))

    def test_counts_and_trees(self):
        rows = ["desks ann bob", "house h", "lead ann h", "type ann write x one", "copy h k", "type ann write x two"]
        day = Day("\n".join(rows))
        for odd in odd_values() + ["ann", "h", "zed"]:
            for call in (day.counts_of, day.tree_of):
                self.assertTrue(raises_with(raised(call, odd), NoName, odd))
        day.go_on()
        self.assertTrue(raises_with(raised(day.counts_of, "h"), NoName, "h"))
        for _ in rows[1:]:
            day.go_on()
        self.assertEqual([day.counts_of(name=name) for name in ("ann", "bob", "h", "k")], [(2, 0), (0, 0), (2, 0), (1, 0)])
        self.assertEqual([day.tree_of(name=name).answer(("read", "/x")) for name in ("ann", "h", "k")], [("text", "two"), ("text", "two"), ("text", "one")])
        day.tree_of("k").done(("remove", "/x"))
        self.assertEqual(day.tree_of("k").paths(), ("/x",))
        self.assertEqual(day.tree_of("bob"), PlainTree())

    def test_goes_are_told_behind_their_line(self):
        """add asks first, and then changes: the desk goes by one row more behind the line."""
        rows = ["desks ann bob cid", "house h", "lead ann h", "lead bob h", "type ann write x one", "copy h k", "type bob add x two", "lead ann k", "type ann add x three", "lead cid h", "type cid ls",
                "knows", "meet ann cid", "knows", "meet bob cid", "knows"]
        self.assertEqual(day_report("\n".join(rows))[1:], ("knows", "ann cid: parted", "knows ann cid", "bob cid: alike", "knows ann bob cid"))
        self.holds("\n".join(rows))

    def test_sixty_entries_of_four_thousand_signs(self):
        rows = ["desks ann bob", "house h", "lead ann h", "lead bob h", "type ann write x " + "x" * 1990, "type bob write y " + "y" * 1990]
        rows += [f"type ann mkdir {'/'.join('d' * depth)}" for depth in range(1, 50)] + [f"type ann write f{number} one" for number in range(5)] + ["type ann find", "type ann write x", "amid 20 bob cp y x", "type ann stat x"]
        rows += ["amid 20 ann cut y 1000", "fall h", "pack ann", "pack h", "type bob cat y", "type bob cp x y", "type ann stat y"]
        shown, model = self.holds("\n".join(rows))
        self.assertEqual((len(model.trees[model.counts["h"]].paths()), shown[-1]), (56, "ann| file 1990 1"))


class Scripts(unittest.TestCase):

    def test_plain_days(self):
        rows = ["desks ann bob", "house h", "fall ann", "amid 3 ann  write x  y ", "type ann pack h", "pack h", "amid 0 bob ", "fall h", "knows"]
        self.assertEqual(plain_day("\n".join(rows)), "\n".join(["desks ann bob", "house h", "type ann  write x  y ", "type ann pack h", "type bob ", "knows"]))
        self.assertEqual(plain_day(text="desks a b"), "desks a b")
        for seed in range(20):
            text = some_script(random.Random(seed), 50)
            self.assertEqual(plain_day(plain_day(text)), plain_day(text))

    def test_what_is_no_script(self):
        first = "desks ann bob"
        for odd in odd_values() + [b"desks a b", [first]]:
            number = 1 if isinstance(odd, str) and len(odd) <= 20000 else 0
            for call in (Day, day_report, plain_day):
                self.assertTrue(raises_with(raised(call, odd), BadDay, number), odd)
        for line in ["", "desks", "desks ann", "desks bob ann", "desks ann ann", "desks a b c d e f", "desks Ann bob", " desks ann bob", "desks  ann bob", "desks ann bob ", "Desks ann bob", "house h",
                     "desks ann abcdefghi", "desks ann\tbob", "knows"]:
            self.assertTrue(raises_with(raised(Day, line), BadDay, 1), line)
        self.assertTrue(raises_with(raised(Day, first + "\n"), BadDay, 2))

    def test_lines_that_cannot_stand(self):
        ahead = ["desks ann bob", "house h", "copy h k", "lead ann h"]
        right = ["house x", "copy k x", "lead bob k", "type ann ", "type bob  x  ", "type ann " + "x" * 2500, "amid 0 ann ", "amid 20 ann x", "fall ann", "fall k", "pack bob", "pack h", "meet ann bob", "state ann", "knows"]
        wrong = ["", " ", "house", "house h", "house ann", "house H", "house x y", "house  x", "house x ", " house x", "house abcdefghi", "house x1", "copy", "copy h", "copy h h", "copy h ann", "copy x y", "copy ann x",
                 "copy h X", "copy h x y", "lead", "lead ann", "lead ann x", "lead h ann", "lead x h", "lead ann bob", "lead ann h k", "type", "type ann", "type  ann x", "type x ls", "type h ls", "type ann a\tb",
                 "type ann " + "x" * 2501, "Type ann x", "amid", "amid 3", "amid 3 ann", "amid 21 ann x", "amid -1 ann x", "amid 01 ann x", "amid x ann x", "amid  3 ann x", "amid 3 h x", "amid 3 x x", "amid ann 3 x",
                 "amid 3 ann " + "x" * 2501, "amid 1000000000 ann x", "fall", "fall x", "fall ann bob", "pack", "pack x", "pack h k", "meet", "meet ann", "meet bob ann", "meet ann ann", "meet ann h", "meet ann bob bob",
                 "meet ann x", "state", "state h", "state x", "state ann bob", "knows ann", "knows ", " knows", "desks ann bob", "rest", "house\tx"]
        for line in right:
            self.assertIsNone(raised(Day, "\n".join([*ahead, line])), line)
        for line in wrong:
            for more in ([], ["house"], ["knows"]):
                for call in (Day, day_report, plain_day):
                    self.assertTrue(raises_with(raised(call, "\n".join([*ahead, line, *more])), BadDay, 5), line)
        for early in ("lead ann z", "copy z y", "fall z", "pack z"):
            self.assertTrue(raises_with(raised(Day, "\n".join([*ahead, early, "house z"])), BadDay, 5))

    def test_limits(self):
        rows = ["desks ann bob"] + ["knows"] * 199
        self.assertEqual(len(day_report("\n".join(rows))), 199)
        self.assertTrue(raises_with(raised(Day, "\n".join([*rows, "knows"])), BadDay, 201))
        self.assertTrue(raises_with(raised(Day, "\n".join([*rows, "no line"])), BadDay, 201))
        self.assertTrue(raises_with(raised(Day, "\n".join([*rows[:100], "no line", *rows])), BadDay, 101))
        line = "type ann " + "x" * 2471
        text = "\n".join(["desks ann bob", *[line] * 8, "type ann " + "x" * (20000 - 13 - 8 * (len(line) + 1) - 10)])
        self.assertEqual((len(text), len(day_report(text))), (20000, 9))
        self.assertTrue(raises_with(raised(Day, text + "x"), BadDay, 0))
        self.assertTrue(raises_with(raised(plain_day, text + "x"), BadDay, 0))

    def test_equal_calls(self):
        text = some_script(random.Random(5), 60)
        days = [Day(text), Day(text=text)]
        for _ in range(60):
            self.assertEqual(days[0].go_on(), days[1].go_on())
        self.assertTrue(all(days[0].tree_of(name) == days[1].tree_of(name) for name in days[0].names + days[0].houses))


if __name__ == "__main__":
    unittest.main()
