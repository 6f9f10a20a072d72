"""Desks at one honest house, and at houses that lie."""

import random
import unittest

from honest import HouseOfTests
from lyinghouse.messages import FREED, KEPT, WAIT
from lyinghouse.plain import changes
from lyinghouse.rows import sides
from lyinghouse.values import all_seals, value_text
from samples import odd_values
from test_plain_model import some_deed
from worlds import Honest, World


def small_deed(chance):
    """A deed on few paths, so that desks meet one another there."""
    path, new = ["/" + "/".join(chance.choice(("a", "b", "seal")) for _ in range(chance.choice((1, 1, 2, 3)))) for _ in "12"]
    text = chance.choice(("", "x", "one\ntwo\n", "y" * chance.randrange(200), "seal"))
    at, many = chance.choice((0, 1, 64, 100)), chance.choice((0, 3, 300))
    return chance.choice((
        ("make", path), ("make", path), ("write", path, text), ("write", path, text), ("put", path, at, text), ("cut", path, at),
        ("link", path, new), ("move", path, new), ("remove", path), ("read", path), ("part", path, at, many), ("list", path), ("look", path)))


NAMES = [("ann", "bob"), ("ann", "bob", "cid"), ("a", "b", "c", "d", "e"), ("seal", "tom", "zed")]


class AtOneHouse(unittest.TestCase):

    def run_on(self, world, many, falls, deeds=small_deed, packs=0.02, meets=0.03):
        chance = world.chance
        told = []
        for _ in range(many):
            watched = chance.choice(world.desks)
            kind = chance.random()
            if kind < packs:
                chance.choice((world.house.pack, lambda: watched.call("pack", falls=falls)))()
            elif kind < packs + meets:
                other = chance.choice([other for other in world.desks if other.name != watched.name])
                counts = other.desk.counts
                word = watched.call("meet", counts, falls=falls)
                self.assertIn(word, (None, sides(watched.desk.counts, counts)))
                self.assertFalse(watched.desk.is_cheated)
            else:
                told.append(world.turn(watched, falls, deeds))
        return told

    def finish(self, world):
        """Whoever has something to say says it, by turns: every deed is done."""
        laps = 0
        while any(watched.desk.doing is not None for watched in world.desks):
            for watched in world.desks:
                if watched.desk.doing is not None:
                    world.turn(watched, 0.0, None)
            laps += 1
            self.assertLess(laps, 3000)
        self.assertEqual(world.house.waiting, ())

    def test_nobody_falls(self):
        for number, names in enumerate(NAMES):
            world = Honest(names, random.Random(50 + number))
            told = self.run_on(world, 2500, 0.0)
            self.finish(world)
            self.assertGreater(sum(world.house.counts), 40)
            self.assertEqual({row[0] for row in told if row is not None}, {"say", "wait", "done"})

    def test_desks_fall(self):
        for number, names in enumerate(NAMES):
            world = Honest(names, random.Random(60 + number))
            self.run_on(world, 2000, 0.12)
            self.finish(world)
            self.assertGreater(sum(world.house.counts), 20)

    def test_small_rooms(self):
        world = Honest(("ann", "bob"), random.Random(70), room=40)
        self.run_on(world, 700, 0.1, some_deed, packs=0.1)
        self.finish(world)

    def test_a_deed_waits_for_nobody_if_nobody_else_speaks(self):
        chance = random.Random(71)
        world = Honest(("ann", "bob"), chance)
        for _ in range(120):
            watched = chance.choice(world.desks)
            told = [world.turn(watched, 0.0, small_deed)]
            while watched.desk.doing is not None:
                told.append(world.turn(watched, 0.0, small_deed))
            self.assertEqual({row[0] for row in told[1:-1]} - {"say"}, set())
            self.assertEqual(told[-1][0], "done")
            self.assertLessEqual(len(told), 3000)


class Liar:
    """A house that answers what it likes, within the rule of the world."""

    def __init__(self, world):
        self.world = world
        self.houses = [HouseOfTests(world.names)]

    def answer(self, name, message):
        chance = self.world.chance
        seals = list(self.world.said)
        kind = chance.random()
        if kind < 0.06 and len(self.houses) < 6:
            self.houses.append(chance.choice(self.houses).copy())
        if kind < 0.75:
            return self.honest(chance.choice(self.houses), name, message)
        seal = chance.choice(seals) if seals else None
        # Statements of long ago are what a lie is mostly made of.
        stated = [other for other in seals if other[2][0] == "statement"]
        old = chance.choice(stated) if stated else None
        return chance.choice((
            ("newest", old), ("turn", old), ("newest", old), ("turn", old), ("newest", seal), ("turn", seal), ("block", seal), ("newest", None), ("turn", None), KEPT, FREED, WAIT, None, message, (seal,), seal,
            ("newest", seal, 1), ("newest", ("statement", (1, 0), ("look", "/"), ("ann", 0))), ("block", None), 7, "newest", (), ("newest",)))

    def honest(self, house, name, message):
        """What this house answers; nothing that it could not have, if somebody lied to the desk before."""
        try:
            return house.hear(name, message)
        except AssertionError:
            return WAIT


class AtHousesThatLie(unittest.TestCase):

    def run_on(self, world, many, falls):
        chance, liar = world.chance, Liar(world)
        done = cheated = 0
        for _ in range(many):
            watched = chance.choice(world.desks)
            if chance.random() < 0.02:
                other = chance.choice([other for other in world.desks if other.name != watched.name])
                ahead = [other.desk.counts, watched.desk.counts]
                watched.call("meet", other.desk.counts, falls=falls)
                if sides(*ahead) == "parted" and not falls:
                    self.assertTrue(watched.desk.is_cheated)
            elif watched.desk.is_cheated:
                continue
            elif watched.desk.doing is None:
                watched.ask(small_deed(chance), falls)
            else:
                told = watched.hears(liar.answer(watched.name, watched.rest()), falls)
                done += told is not None and told[0] == "done"
                cheated += watched.desk.is_cheated
            world.check_all()
        return done, cheated

    def test_the_main_promise(self):
        parted = total = 0
        for number in range(60):
            world = World(NAMES[number % 4], random.Random(100 + number))
            done, cheated = self.run_on(world, 200, 0.1 if number % 2 else 0.0)
            total += done
            counts = [watched.desk.counts for watched in world.desks]
            parted += any(sides(one, other) == "parted" for one in counts for other in counts)
        # So something was seen of all that may come about.
        self.assertGreater(parted, 5)
        self.assertGreater(total, 100)


class Silent(unittest.TestCase):

    def test_any_answer(self):
        """Whatever a desk hears that has no seals: it goes over to nothing, and states what it may."""
        chance = random.Random(80)
        world = World(("ann", "bob"), chance)
        watched = world.desks[0]
        watched.ask(("write", "/x", "y"))
        for odd in odd_values():
            try:
                value_text(odd)
            except ValueError:
                continue
            if not all_seals(odd):
                told = watched.hears(odd)
                self.assertEqual(told[0], "wait")
        self.assertEqual(watched.desk.counts, (0, 0))


if __name__ == "__main__":
    unittest.main()
