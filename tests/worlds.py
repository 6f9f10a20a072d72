"""Desks among houses, watched: what they say, state and answer is held against what section 11 promises."""

import copy

from honest import a_house, kept, plain_of, statement_of, work
from falling import one_left
from lyinghouse.desk import Desk, desk_again
from lyinghouse.house import house_again
from lyinghouse.plain import PlainTree, changes, played
from lyinghouse.rows import is_past, row_of, sides
from lyinghouse.values import all_seals, seals_in


def standing(desk):
    """What of a desk has to come back behind a fall."""
    return desk.name, desk.names, desk.counts, desk.doing, desk.made, desk.is_cheated


class Watched:
    """One desk, whose calls may be cut, and all that is known of what it did."""

    def __init__(self, world, desk):
        self.world = world
        self.desk = desk
        self.name = desk.name
        self.row = ()
        self.heard = {}
        self.own = {}
        # Of the deed that is open: the counts ahead of it, and how many things were made then.
        self.asked_at = None
        self.made_at_asking = 0
        # The events that it told (section 15).
        self.events = []

    def call(self, call, *args, falls=0.0):
        """Calls the desk; with this chance it falls in the call, or behind it: then None is told."""
        chance = self.world.chance
        before, image = standing(self.desk), self.desk.image
        told = getattr(self.desk, call)(*args)
        behind = standing(self.desk)
        if chance.random() < falls:
            left, is_done = one_left(image, self.desk.steps, chance)
            room = chance.choice((40, 100))
            self.desk = desk_again(left, room)
            for _ in range(chance.choice((0, 0, 1))):
                left, _ = one_left(left, self.desk.steps, chance)
                self.desk = desk_again(left, room)
            assert standing(self.desk) in ((behind,) if is_done else (before, behind))
            told = None
        assert self.desk.held <= self.desk.room or self.desk.doing is not None
        self.watch()
        return told

    def watch(self):
        """The row has only grown, by statements of others and one of its own."""
        made = self.desk.made
        if made is not None and (self.name, made[0]) not in self.world.made:
            assert len([thing for thing in self.world.past if thing[0] == self.name]) == made[0] - 1
            self.world.made[(self.name, made[0])] = (self.name, *made)
            self.world.past += ((self.name, *made),)
            assert is_past(self.world.names, self.world.past)
        if made is not None:
            assert self.world.made[(self.name, made[0])] == (self.name, *made)
        row = row_of(self.world.names, self.world.past, self.desk.counts)
        assert row is not None and row[:len(self.row)] == self.row, (self.row, row)
        self.row = row

    def own_count(self):
        return self.desk.counts[self.world.names.index(self.name)]

    def tellings(self):
        """All that it told; what it made last, and told no answer to."""
        last = self.events[-1][2] if self.events else (0,) * len(self.world.names)
        is_all = last[self.world.names.index(self.name)] == self.own_count()
        return tuple(self.events) if is_all else (*self.events, (self.desk.made[2], None, self.desk.counts))

    def says(self, message):
        """Each seal in it is an own one, just as it was before, or was heard."""
        for seal in all_seals(message):
            if seal in self.heard:
                continue
            assert seal[1] == self.name, seal
            key = seal[2][:2] if seal[2][0] == "block" else ("statement", seal[2][1][self.world.names.index(self.name)])
            assert self.own.setdefault(key, seal) == seal
            assert seal[2][0] == "statement" or seal[2][0] == "block"
            if seal[2][0] == "statement":
                assert (seal[2][1], seal[2][2]) == self.world.made[(self.name, key[1])][2:]
        for seal in all_seals(message):
            self.world.said[seal] = True

    def hears(self, answer, falls=0.0):
        """Hears an answer that keeps the rule of the world."""
        assert all(seal in self.world.said for seal in seals_in(answer))
        for seal in all_seals(answer):
            self.heard[seal] = True
        deed, ahead, made = self.desk.doing, self.row, self.desk.made
        told = self.call("hear", answer, falls=falls)
        if told is not None and told[0] == "done":
            self.answered(deed, told[1])
            self.events.append((deed, told[1], self.desk.counts))
        if told is None and self.desk.doing is None and not self.desk.is_cheated and self.made_at_asking < self.own_count():
            # It fell when it was done: what it made was done.
            self.events.append((deed, ("done",), self.desk.counts))
        if told is not None and told[0] in ("say", "wait"):
            assert told[1] == self.desk.rest() and self.desk.doing == deed
            self.says(told[1])
        if told is not None and told[0] == "cheated":
            assert self.desk.is_cheated and self.desk.doing is None and self.desk.rest() is None
        return told

    def answered(self, deed, answer):
        """The answer is that of the tree of the row, as it was ahead of the deed."""
        last = self.row[-1] if self.row else None
        is_own = last is not None and last[0] == self.name and self.asked_at[self.world.names.index(self.name)] < last[1]
        row = self.row[:-1] if is_own else self.row
        tree = played(tuple(thing[3] for thing in row))[1]
        assert not is_own or last[3] == deed
        before = tree.text
        assert tree.done(deed) == answer, (deed, answer)
        assert (tree.text != before) == is_own
        self.asked_at = None

    def ask(self, deed, falls=0.0):
        counts = self.desk.counts
        message = self.call("ask", deed, falls=falls)
        if self.desk.doing is not None:
            self.asked_at = counts
            self.made_at_asking = counts[self.world.names.index(self.name)]
        if message is not None:
            assert message == self.desk.rest()
            self.says(message)
        return message

    def rest(self):
        message = self.desk.rest()
        assert (message is None) == (self.desk.doing is None)
        if message is not None:
            self.says(message)
        return message


class World:

    def __init__(self, names, chance, room=100, sectors=2000):
        self.names = names
        self.chance = chance
        self.said = {}
        self.past = ()
        self.made = {}
        self.desks = [Watched(self, Desk(name, names, room, sectors)) for name in names]

    def check_all(self):
        """The rows of each two desks are one the beginning of the other, or they are parted."""
        for one in self.desks:
            for other in self.desks:
                shorter = min(len(one.row), len(other.row))
                word = sides(one.desk.counts, other.desk.counts)
                assert (one.row[:shorter] == other.row[:shorter]) == (word != "parted")


class Honest(World):
    """Desks at one house: an honest run (section 12)."""

    def __init__(self, names, chance, house_sectors=6000, **more):
        World.__init__(self, names, chance, **more)
        self.house = a_house(names, house_sectors)
        # The trees of all statements that the house kept, one after the other.
        self.trees = [PlainTree()]
        self.since = {}
        self.elder = {name: [] for name in names}

    def call_house(self, call, *args, falls=0.0):
        """Calls the house; with this chance it falls in the call, or behind it: then None is told."""
        chance = self.chance
        before, image, waited = kept(self.house), self.house.image, self.house.waiting
        told = getattr(self.house, call)(*args)
        behind = kept(self.house)
        if chance.random() < falls:
            left, is_done = one_left(image, self.house.steps, chance)
            self.house = house_again(left)
            for _ in range(chance.choice((0, 0, 1))):
                left, _ = one_left(left, self.house.steps, chance)
                self.house = house_again(left)
            assert kept(self.house) in ((behind,) if is_done else (before, behind))
            told = None
        speaker = args[:1]
        others = tuple(name for name in waited if name not in speaker)
        # Nobody is pushed aside, or comes to wait, but by what it says itself: at the end.
        assert self.house.waiting in (waited, others, others + speaker)
        assert sum(self.house.counts) in (len(self.trees) - 1, len(self.trees))
        if sum(self.house.counts) == len(self.trees):
            tree = self.trees[-1].copy()
            tree.done(statement_of(self.house)[2][2])
            assert tree.text != self.trees[-1].text
            self.trees.append(tree)
            assert plain_of(self.house) == tree
        return told

    def turn(self, watched, falls, deeds):
        """One desk asks, or says what it has to say, perhaps several times, and hears the answer."""
        desk = watched.desk
        if desk.doing is None:
            deed = deeds(self.chance)
            watched.ask(deed, falls)
            self.since[watched.name] = len(self.trees) - 1
            return None
        deed, before, answer = desk.doing, desk.counts, None
        for _ in range(self.chance.choice((1, 1, 1, 2, 3))):
            answer = self.call_house("hear", watched.name, watched.rest(), falls=falls / 3)
        elder = self.elder[watched.name]
        if watched.rest() not in elder:
            elder.append(watched.rest())
        if self.chance.random() < 0.1:
            # What was said long ago is heard once more: nobody hears the answer.
            self.call_house("hear", watched.name, self.chance.choice(elder[-40:]), falls=falls / 3)
        is_lost = answer is None or self.chance.random() < falls / 2
        told = None if is_lost else watched.hears(answer, falls)
        if told is not None and told[0] == "done":
            self.was_done(watched, deed, before, told[1])
        assert not watched.desk.is_cheated
        self.check_house()
        return told

    def was_done(self, watched, deed, before, answer):
        assert watched.name not in self.house.waiting
        own = self.names.index(watched.name)
        last = watched.row[-1] if watched.row else None
        is_own = last is not None and last[0] == watched.name and last[1] > self.own_at_asking[watched.name]
        if is_own:
            assert last[3] == deed and changes(deed) and answer == ("done",)
            assert self.trees[sum(watched.desk.counts) - 1].answer(deed) == answer
            assert watched.desk.counts[own] == last[1]
            return
        assert any(tree.answer(deed) == answer for tree in self.trees[self.since[watched.name]:])

    @property
    def own_at_asking(self):
        """How many things each desk had made when its deed was asked for."""
        return {watched.name: watched.made_at_asking for watched in self.desks}

    def check_house(self):
        house = self.house
        assert len(set(house.waiting)) == len(house.waiting)
        newest = row_of(self.names, self.past, house.counts)
        for watched in self.desks:
            row = watched.row
            is_beginning = newest[:len(row)] == row
            assert is_beginning or (row[:-1] == newest and row[-1][0] == watched.name and self.is_unsaid(watched))
            if watched.name in house.waiting:
                assert watched.desk.doing is not None and changes(watched.desk.doing)
        self.check_all()

    def is_unsaid(self, watched):
        """Whether the desk has made a statement that the house has not heard."""
        own = self.names.index(watched.name)
        return watched.desk.counts[own] > self.house.counts[own]

    def ends_alone(self, watched):
        """If nobody else has the turn, or speaks, the open deed is done: what it says, and hears, is not seen by others."""
        others = [other for other in self.desks if other is not watched]
        if watched.desk.doing is None or self.house.waiting[:1] not in ((), (watched.name,)):
            return False
        assert not any(self.is_unsaid(other) for other in others)
        desk = copy.deepcopy(watched.desk)
        assert work(desk, self.house.copy())[0] == "done"
        return True
