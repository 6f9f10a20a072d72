"""Desks at one honest house, and at houses that lie."""

import random
import unittest

from honest import a_house
from lyinghouse.house import house_again
from lyinghouse.messages import FREED, KEPT, WAIT
from lyinghouse.rows import sides
from lyinghouse.values import all_seals, is_seal, is_value, seals_in, value_text
from lyinghouse.views import judged_tellings
from samples import odd_values
from test_plain_model import some_deed
from worlds import Honest, World


def small_deed(chance):
    """A deed on few paths, so that desks meet one another there."""
    path, new = ["/" + "/".join(chance.choice(("a", "b", "seal")) for _ in range(chance.choice((1, 1, 2, 3)))) for _ in "12"]
    text = chance.choice(("", "x", "one\ntwo\n", "y" * chance.randrange(200), "seal"))
    at, many = chance.choice((0, 1, 64, 100)), chance.choice((0, 3, 300))
    return chance.choice((
        ("make", path), ("make", path), ("write", path, text), ("write", path, text), ("put", path, at, text), ("cut", path, at),
        ("link", path, new), ("move", path, new), ("remove", path), ("read", path), ("part", path, at, many), ("list", path), ("look", path)))


NAMES = [("ann", "bob"), ("ann", "bob", "cid"), ("a", "b", "c", "d", "e"), ("seal", "tom", "zed")]


class AtOneHouse(unittest.TestCase):

    def run_on(self, world, many, falls, deeds=small_deed, packs=0.02, meets=0.03):
        chance = world.chance
        told, alone = [], 0
        for _ in range(many):
            watched = chance.choice(world.desks)
            kind = chance.random()
            if kind < packs / 2:
                watched.call("pack", falls=falls)
            elif kind < packs:
                world.call_house("pack", falls=falls)
                alone += world.ends_alone(watched)
            elif kind < packs + meets:
                other = chance.choice([other for other in world.desks if other.name != watched.name])
                counts = other.desk.counts
                word = watched.call("meet", counts, falls=falls)
                self.assertIn(word, (None, sides(watched.desk.counts, counts)))
                self.assertFalse(watched.desk.is_cheated)
            else:
                told.append(world.turn(watched, falls, deeds))
                alone += chance.random() < 0.02 and world.ends_alone(watched)
        self.assertGreater(alone, 0)
        return told

    def finish(self, world):
        """Whoever has something to say says it, by turns: every deed is done."""
        laps = 0
        while any(watched.desk.doing is not None for watched in world.desks):
            for watched in world.desks:
                if watched.desk.doing is not None:
                    world.turn(watched, 0.0, None)
            laps += 1
            self.assertLess(laps, 3000)
        self.assertEqual(world.house.waiting, ())

    def test_nobody_falls(self):
        for number, names in enumerate(NAMES):
            world = Honest(names, random.Random(50 + number))
            told = self.run_on(world, 2500, 0.0)
            self.finish(world)
            self.assertGreater(sum(world.house.counts), 40)
            self.assertEqual({row[0] for row in told if row is not None}, {"say", "wait", "done"})

    def test_desks_fall(self):
        for number, names in enumerate(NAMES):
            world = Honest(names, random.Random(60 + number))
            self.run_on(world, 2000, 0.12)
            self.finish(world)
            self.assertGreater(sum(world.house.counts), 20)

    def test_small_rooms(self):
        world = Honest(("ann", "bob"), random.Random(70), room=40)
        self.run_on(world, 700, 0.1, some_deed, packs=0.1)
        self.finish(world)

    def test_a_deed_waits_for_nobody_if_nobody_else_speaks(self):
        chance = random.Random(71)
        world = Honest(("ann", "bob"), chance)
        for _ in range(120):
            watched = chance.choice(world.desks)
            told = [world.turn(watched, 0.0, small_deed)]
            while watched.desk.doing is not None:
                told.append(world.turn(watched, 0.0, small_deed))
            self.assertEqual({row[0] for row in told[1:-1]} - {"say"}, set())
            self.assertEqual(told[-1][0], "done")
            self.assertLessEqual(len(told), 3000)


def bent(value, seals, chance):
    """The value with some of its parts exchanged: seals for seals that were said."""
    if is_seal(value):
        return value if chance.random() < 0.4 else chance.choice(seals)
    if isinstance(value, tuple):
        parts = tuple(bent(part, seals, chance) for part in value)
        return chance.choice((parts, parts, parts, parts[1:], (*parts, None), (parts,)))
    if isinstance(value, int):
        return chance.choice((value, value + 1, 0, None))
    return chance.choice((value, value, value, "newest", "turn"))


class Liar:
    """Houses that are honest by themselves, and somebody between them and the desks who is not.

    He copies houses and puts elder copies in their place, leads desks to and fro, and answers what he likes, within
    the rule of the world.
    """

    def __init__(self, world):
        self.world = world
        self.houses = [a_house(world.names)]
        self.elder = []
        self.answers = []

    def answer(self, name, message):
        chance = self.world.chance
        self.play(chance)
        house = self.houses[len(name) % len(self.houses)] if chance.random() < 0.7 else chance.choice(self.houses)
        for _ in range(chance.choice((1, 1, 1, 2))):
            answer = house.hear(name, message)
        if chance.random() < 0.02:
            house.hear(chance.choice(self.world.names), message)
        self.answers.append(answer)
        kind = chance.random()
        if kind < 0.8:
            return answer
        if kind < 0.85:
            return chance.choice(self.answers)
        if kind < 0.9:
            return self.bent(answer)
        return self.lie(message)

    def play(self, chance):
        """What the houses do not know of: they are copied, put back, packed, and fall."""
        kind, place = chance.random(), chance.randrange(len(self.houses))
        if kind < 0.04 and len(self.houses) < 5:
            self.houses.append(self.houses[place].copy())
        elif kind < 0.08:
            self.elder.append(self.houses[place].copy())
        elif kind < 0.1 and self.elder:
            self.houses[place] = chance.choice(self.elder).copy()
        elif kind < 0.13:
            self.houses[place].pack()
        elif kind < 0.14:
            self.houses[place] = house_again(self.houses[place].image)

    def bent(self, answer):
        seals = list(self.world.said)
        told = bent(answer, seals or [None], self.world.chance)
        return told if is_value(told) and all(seal in self.world.said for seal in seals_in(told)) else answer

    def lie(self, message):
        chance = self.world.chance
        seals = list(self.world.said)
        seal = chance.choice(seals) if seals else None
        # Statements of long ago are what a lie is mostly made of.
        stated = [other for other in seals if other[2][0] == "statement"]
        old = chance.choice(stated) if stated else None
        return chance.choice((
            ("newest", old), ("turn", old), ("newest", old), ("turn", old), ("newest", seal), ("turn", seal), ("block", seal), ("newest", None), ("turn", None), KEPT, FREED, WAIT, None, message, (seal,), seal,
            ("newest", seal, 1), ("newest", ("statement", (1, 0), ("look", "/"), ("ann", 0))), ("block", None), 7, "newest", (), ("newest",)))


class AtHousesThatLie(unittest.TestCase):

    def run_on(self, world, many, falls):
        chance, liar = world.chance, Liar(world)
        done = cheated = 0
        for _ in range(many):
            watched = chance.choice(world.desks)
            if chance.random() < 0.02:
                other = chance.choice([other for other in world.desks if other.name != watched.name])
                ahead = [other.desk.counts, watched.desk.counts]
                watched.call("meet", other.desk.counts, falls=falls)
                if sides(*ahead) == "parted" and not falls:
                    self.assertTrue(watched.desk.is_cheated)
            elif watched.desk.is_cheated:
                continue
            elif watched.desk.doing is None:
                watched.ask(small_deed(chance), falls)
            else:
                answer = liar.answer(watched.name, watched.rest())
                told = watched.hears(answer, falls)
                if chance.random() < 0.05 and watched.desk.doing is not None:
                    told = watched.hears(answer, falls)
                done += told is not None and told[0] == "done"
                cheated += watched.desk.is_cheated
            world.check_all()
        told = judged_tellings(world.names, tuple(watched.tellings() for watched in world.desks))
        counts = [watched.desk.counts for watched in world.desks]
        self.assertEqual(told[0], "parted" if any(sides(one, other) == "parted" for one in counts for other in counts) else "one")
        return done, cheated

    def test_the_main_promise(self):
        parted = total = 0
        for number in range(60):
            world = World(NAMES[number % 4], random.Random(100 + number))
            done, cheated = self.run_on(world, 200, 0.1 if number % 2 else 0.0)
            total += done
            counts = [watched.desk.counts for watched in world.desks]
            parted += any(sides(one, other) == "parted" for one in counts for other in counts)
        # So something was seen of all that may come about.
        self.assertGreater(parted, 5)
        self.assertGreater(total, 100)


class Silent(unittest.TestCase):

    def test_any_answer(self):
        """Whatever a desk hears that has no seals: it goes over to nothing, and states what it may."""
        chance = random.Random(80)
        world = World(("ann", "bob"), chance)
        watched = world.desks[0]
        watched.ask(("write", "/x", "y"))
        for odd in odd_values():
            try:
                value_text(odd)
            except ValueError:
                continue
            if not all_seals(odd):
                told = watched.hears(odd)
                self.assertEqual(told[0], "wait")
        self.assertEqual(watched.desk.counts, (0, 0))


if __name__ == "__main__":
    unittest.main()
