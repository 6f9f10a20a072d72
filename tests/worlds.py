"""Desks among houses, watched: what they say, state and answer is held against what section 11 promises."""

from honest import HouseOfTests
from falling import one_left
from lyinghouse.desk import Desk, desk_again
from lyinghouse.plain import PlainTree, changes, played
from lyinghouse.rows import is_past, row_of, sides
from lyinghouse.values import all_seals, seals_in


def standing(desk):
    """What of a desk has to come back behind a fall."""
    return desk.name, desk.names, desk.counts, desk.doing, desk.made, desk.is_cheated


class Watched:
    """One desk, whose calls may be cut, and all that is known of what it did."""

    def __init__(self, world, desk):
        self.world = world
        self.desk = desk
        self.name = desk.name
        self.row = ()
        self.heard = {}
        self.own = {}
        # Of the deed that is open: the counts ahead of it.
        self.asked_at = None

    def call(self, call, *args, falls=0.0):
        """Calls the desk; with this chance it falls in the call, or behind it: then None is told."""
        chance = self.world.chance
        before, image = standing(self.desk), self.desk.image
        told = getattr(self.desk, call)(*args)
        behind = standing(self.desk)
        if chance.random() < falls:
            left, is_done = one_left(image, self.desk.steps, chance)
            room = chance.choice((40, 100))
            self.desk = desk_again(left, room)
            for _ in range(chance.choice((0, 0, 1))):
                left, _ = one_left(left, self.desk.steps, chance)
                self.desk = desk_again(left, room)
            assert standing(self.desk) in ((behind,) if is_done else (before, behind))
            told = None
        assert self.desk.held <= self.desk.room or self.desk.doing is not None
        self.watch()
        return told

    def watch(self):
        """The row has only grown, by statements of others and one of its own."""
        made = self.desk.made
        if made is not None and (self.name, made[0]) not in self.world.made:
            assert len([thing for thing in self.world.past if thing[0] == self.name]) == made[0] - 1
            self.world.made[(self.name, made[0])] = (self.name, *made)
            self.world.past += ((self.name, *made),)
            assert is_past(self.world.names, self.world.past)
        if made is not None:
            assert self.world.made[(self.name, made[0])] == (self.name, *made)
        row = row_of(self.world.names, self.world.past, self.desk.counts)
        assert row is not None and row[:len(self.row)] == self.row, (self.row, row)
        self.row = row

    def says(self, message):
        """Each seal in it is an own one, just as it was before, or was heard."""
        for seal in all_seals(message):
            if seal in self.heard:
                continue
            assert seal[1] == self.name, seal
            key = seal[2][:2] if seal[2][0] == "block" else ("statement", seal[2][1][self.world.names.index(self.name)])
            assert self.own.setdefault(key, seal) == seal
            assert seal[2][0] == "statement" or seal[2][0] == "block"
            if seal[2][0] == "statement":
                assert (seal[2][1], seal[2][2]) == self.world.made[(self.name, key[1])][2:]
        for seal in all_seals(message):
            self.world.said[seal] = True

    def hears(self, answer, falls=0.0):
        """Hears an answer that keeps the rule of the world."""
        assert all(seal in self.world.said for seal in seals_in(answer))
        for seal in all_seals(answer):
            self.heard[seal] = True
        deed, ahead, made = self.desk.doing, self.row, self.desk.made
        told = self.call("hear", answer, falls=falls)
        if told is not None and told[0] == "done":
            self.answered(deed, told[1])
        if told is not None and told[0] in ("say", "wait"):
            assert told[1] == self.desk.rest() and self.desk.doing == deed
            self.says(told[1])
        if told is not None and told[0] == "cheated":
            assert self.desk.is_cheated and self.desk.doing is None and self.desk.rest() is None
        return told

    def answered(self, deed, answer):
        """The answer is that of the tree of the row, as it was ahead of the deed."""
        last = self.row[-1] if self.row else None
        is_own = last is not None and last[0] == self.name and self.asked_at[self.world.names.index(self.name)] < last[1]
        row = self.row[:-1] if is_own else self.row
        tree = played(tuple(thing[3] for thing in row))[1]
        assert not is_own or last[3] == deed
        before = tree.text
        assert tree.done(deed) == answer, (deed, answer)
        assert (tree.text != before) == is_own
        self.asked_at = None

    def ask(self, deed, falls=0.0):
        counts = self.desk.counts
        message = self.call("ask", deed, falls=falls)
        if self.desk.doing is not None:
            self.asked_at = counts
        if message is not None:
            assert message == self.desk.rest()
            self.says(message)
        return message

    def rest(self):
        message = self.desk.rest()
        assert (message is None) == (self.desk.doing is None)
        if message is not None:
            self.says(message)
        return message


class World:

    def __init__(self, names, chance, room=100, sectors=2000):
        self.names = names
        self.chance = chance
        self.said = {}
        self.past = ()
        self.made = {}
        self.desks = [Watched(self, Desk(name, names, room, sectors)) for name in names]

    def check_all(self):
        """The rows of each two desks are one the beginning of the other, or they are parted."""
        for one in self.desks:
            for other in self.desks:
                shorter = min(len(one.row), len(other.row))
                word = sides(one.desk.counts, other.desk.counts)
                assert (one.row[:shorter] == other.row[:shorter]) == (word != "parted")


class Honest(World):
    """Desks at one house: an honest run (section 12)."""

    def __init__(self, names, chance, **more):
        World.__init__(self, names, chance, **more)
        self.house = HouseOfTests(names)
        # The trees of all statements that the house kept, one after the other.
        self.trees = [PlainTree()]
        self.since = {}

    def turn(self, watched, falls, deeds):
        """One desk asks, or says what it has to say, and hears the answer."""
        desk = watched.desk
        if desk.doing is None:
            deed = deeds(self.chance)
            watched.ask(deed, falls)
            self.since[watched.name] = len(self.trees) - 1
            return None
        deed, before = desk.doing, desk.counts
        answer = self.house.hear(watched.name, watched.rest())
        if len(self.house.counts) and sum(self.house.counts) >= len(self.trees):
            tree = self.trees[-1].copy()
            tree.done(self.house.statement[2][2])
            assert tree.text != self.trees[-1].text
            self.trees.append(tree)
            assert self.house.plain() == tree
        told = watched.hears(answer, falls) if self.chance.random() >= falls / 2 else None
        if told is not None and told[0] == "done":
            self.was_done(watched, deed, told[1])
        assert not watched.desk.is_cheated
        self.check_house()
        return told

    def was_done(self, watched, deed, answer):
        assert watched.name not in self.house.waiting
        seen = self.trees[self.since[watched.name]:]
        if changes(deed) and answer == ("done",) and watched.row and watched.row[-1][:2] == (watched.name, watched.desk.counts[self.names.index(watched.name)]) \
                and watched.row[-1][3] == deed and sum(watched.desk.counts) > self.since[watched.name]:
            assert self.trees[sum(watched.desk.counts) - 1].answer(deed) == answer
            return
        assert any(tree.answer(deed) == answer for tree in seen)

    def check_house(self):
        house = self.house
        assert len(set(house.waiting)) == len(house.waiting)
        newest = row_of(self.names, self.past, house.counts)
        for watched in self.desks:
            row = watched.row
            is_beginning = newest[:len(row)] == row
            assert is_beginning or (row[:-1] == newest and row[-1][0] == watched.name and watched.desk.rest()[0] == "keep")
            if watched.name in house.waiting:
                assert watched.desk.doing is not None and changes(watched.desk.doing)
        self.check_all()
