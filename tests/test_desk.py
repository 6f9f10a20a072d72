import random
import unittest

from honest import a_house, bag_of, does, let_wait, plain_of, statement_of, work
from lyinghouse.desk import Desk, desk_again
from lyinghouse.discs import done_steps, new_image
from lyinghouse.errors import (
    BadCounts, BadDeed, BadImage, BadName, BadNames, BadNumber, BadValue, Busy, Cheated, NotOpen, TooFull,
)
from lyinghouse.keeps import Keep, keep_again
from lyinghouse.plain import played
from lyinghouse.values import is_value, value_text
from falling import all_left
from samples import nested, odd_values, raised, raises_with
from test_plain_model import some_deed
from worlds import standing

NAMES = ("ann", "bob")


def desks(room=100, sectors=2000):
    return Desk("ann", NAMES, room, sectors), Desk("bob", NAMES, room, sectors)


def seen(desk):
    """All that can be seen of a desk."""
    return standing(desk), desk.room, desk.held, desk.image, desk.steps, desk.rest()


class Making(unittest.TestCase):

    def test_a_new_desk(self):
        desk = Desk("bob", ("ann", "bob", "cid"), 40, 200)
        self.assertEqual((desk.name, desk.names, desk.room, desk.counts), ("bob", ("ann", "bob", "cid"), 40, (0, 0, 0)))
        self.assertEqual((desk.doing, desk.made, desk.is_cheated, desk.held, desk.rest()), (None, None, False, 0, None))
        self.assertEqual((done_steps(new_image(200), desk.steps), len(desk.image)), (desk.image, 200))
        self.assertEqual(desk.steps[-1], ("fence",))
        Desk(name="a", names=("a", "b", "c", "d", "e"), room=10000, sectors=20000)

    def test_errors_in_their_order(self):
        bad_names = odd_values() + [("ann",), ("bob", "ann"), ("ann", "ann"), ["ann", "bob"], ("a", "b", "c", "d", "e", "f"), ("ann", "Bob")]
        for odd in bad_names:
            self.assertTrue(raises_with(raised(Desk, "zed", odd, 0, 0), BadNames, odd))
        for odd in odd_values() + ["cid", "", ("ann",)]:
            if not (isinstance(odd, str) and odd == "ann"):
                self.assertTrue(raises_with(raised(Desk, odd, NAMES, 0, 0), BadName, odd))
        for odd in odd_values() + [39, 10001, -40]:
            if not (type(odd) is int and 40 <= odd <= 10000):
                self.assertTrue(raises_with(raised(Desk, "ann", NAMES, odd, 0), BadNumber, odd))
        for odd in odd_values() + [199, 20001]:
            if not (type(odd) is int and 200 <= odd <= 20000):
                self.assertTrue(raises_with(raised(Desk, "ann", NAMES, 40, odd), BadNumber, odd))


class Calls(unittest.TestCase):

    def stays(self, desk, kind, value, call, *args):
        before = seen(desk)
        self.assertTrue(raises_with(raised(call, *args), kind, value), (call, args))
        self.assertEqual(seen(desk), before)

    def test_ask(self):
        desk, _ = desks()
        for odd in odd_values() + [("look",), ["look", "/"], ("put", "/a", -1, "")]:
            self.stays(desk, BadDeed, odd, desk.ask, odd)
        before = desk.image
        message = desk.ask(("look", "/"))
        self.assertEqual((desk.doing, desk.rest()), (("look", "/"), message))
        self.assertTrue(is_value(message))
        self.assertEqual(done_steps(before, desk.steps), desk.image)
        for deed in (("look", "/"), "no deed", None):
            self.stays(desk, Busy, ("look", "/"), desk.ask, deed)

    def test_hear(self):
        desk, _ = desks()
        for odd in odd_values():
            self.stays(desk, NotOpen, odd, desk.hear, odd)
        message = desk.ask(("make", "/a"))
        for odd in odd_values() + [nested(30, 1), nested(31, 1)]:
            if is_value(odd):
                self.assertEqual(desk.hear(odd), ("wait", message))
                self.assertEqual((desk.steps, desk.counts, desk.doing), ((), (0, 0), ("make", "/a")))
            else:
                self.stays(desk, BadValue, odd, desk.hear, odd)

    def test_meet(self):
        desk, other = desks()
        house = a_house(NAMES)
        does(desk, house, ("make", "/a"))
        for odd in odd_values() + [(1,), (1, 0, 0), [1, 0], (2, 0), (True, 0), (1, -1), (1, 10 ** 9 + 1), ("1", 0), (1, None)]:
            self.stays(desk, BadCounts, odd, desk.meet, odd)
        for counts, word in [((1, 0), "alike"), ((0, 0), "ahead"), ((1, 1), "behind"), ((1, 10 ** 9), "behind")]:
            before = standing(desk)
            self.assertEqual(desk.meet(counts), word)
            self.assertEqual(standing(desk), before)
        self.assertEqual(desk.meet((0, 1)), "parted")
        self.assertEqual((desk.is_cheated, desk.counts, desk.made[0]), (True, (1, 0), 1))
        self.assertEqual([desk.meet(counts) for counts in ((1, 0), (0, 0), (1, 1), (0, 1))], ["alike", "ahead", "behind", "parted"])
        self.stays(desk, BadCounts, (2, 0), desk.meet, (2, 0))

    def test_a_cheated_desk(self):
        desk, _ = desks()
        does(desk, a_house(NAMES), ("make", "/a"))
        desk.ask(("look", "/"))
        self.assertEqual(desk.meet((0, 3)), "parted")
        self.assertEqual((desk.doing, desk.rest(), desk.is_cheated), (None, None, True))
        for deed in (("look", "/"), "no deed"):
            self.stays(desk, Cheated, None, desk.ask, deed)
        for odd in odd_values():
            self.stays(desk, NotOpen, odd, desk.hear, odd)
        again = desk_again(desk.image, 50)
        self.assertEqual((standing(again), again.rest(), again.room), (standing(desk), None, 50))
        self.assertIsNone(desk.pack())
        self.assertEqual(standing(desk_again(desk.image, 50)), standing(desk))

    def test_pack(self):
        desk, _ = desks()
        house = a_house(NAMES)
        for number in range(5):
            does(desk, house, ("write", "/x", str(number)))
        desk.ask(("read", "/x"))
        before, image = (standing(desk), desk.held, desk.rest()), desk.image
        self.assertIsNone(desk.pack())
        self.assertEqual((standing(desk), desk.held, desk.rest()), before)
        self.assertEqual(done_steps(image, desk.steps), desk.image)
        self.assertEqual(len(keep_again(desk.image)), 1)
        self.assertEqual(work(desk, house), ("done", ("text", "4")))

    def test_steps(self):
        desk, _ = desks()
        house = a_house(NAMES)
        before = desk.image
        desk.ask(("write", "/x", "y" * 500))
        while desk.doing is not None:
            self.assertEqual(done_steps(before, desk.steps), desk.image)
            before = desk.image
            desk.hear(house.hear("ann", desk.rest()))
        self.assertEqual(done_steps(before, desk.steps), desk.image)
        self.assertEqual((desk.meet((1, 0)), desk.steps), ("alike", ()))
        desk.meet((1, 4))
        self.assertNotEqual(desk.steps, ())
        self.assertEqual((desk.meet((1, 3)), desk.steps), ("behind", ()))

    def test_arguments_may_be_named(self):
        desk, _ = desks()
        desk.ask(deed=("look", "/"))
        desk.hear(answer=None)
        desk.meet(counts=(0, 0))
        self.assertEqual(desk_again(image=desk.image, room=40).doing, ("look", "/"))


class Again(unittest.TestCase):

    def test_what_is_no_image_of_a_desk(self):
        desk, _ = desks()
        row = keep_again(desk.image).rows[0]
        images = [new_image(16), new_image(2000), new_image(15), desk.image[:-1] + ("x",), list(desk.image)]
        rows = [(), (1,), (None,), ("desk",), (("desk",),), (("house", *row[1:]),), (row[:-1],), ((*row, None),), (row, 7)]
        for place, wrong in enumerate([
            ("desks",), ("cid", 1, None), (("ann",), "x", ("bob", "ann")), ((0,), (1, 0), None), ((0,), 5, (0, -1)), (-1, None, "0"), (-1, None, "0"),
            ("deed", ("look",), 7), (7, (1, (1, 0), ("make", "/a")), (1, (1, 0)), ()), (7, (("ann", 0), ()), ()), (2, -1, None, "x"),
        ]):
            rows.extend([((*row[:place], part, *row[place + 1:]),) for part in wrong])
        for values in rows:
            keep = Keep(2000)
            keep.pack(values)
            images.append(keep.image)
        small = Keep(199)
        small.add(row)
        for image in images + [small.image] + odd_values():
            for room in (100, 0, None):
                self.assertTrue(raises_with(raised(desk_again, image, room), BadImage, None))
        large = Keep(200)
        large.add(row)
        self.assertEqual(desk_again(large.image, 40).name, "ann")

    def test_rooms(self):
        desk, _ = desks()
        for odd in odd_values() + [39, 10001]:
            if not (type(odd) is int and 40 <= odd <= 10000):
                self.assertTrue(raises_with(raised(desk_again, desk.image, odd), BadNumber, odd))
        self.assertEqual((desk_again(desk.image, 40).room, desk_again(desk.image, 10000).room), (40, 10000))

    def test_rows_that_cannot_be(self):
        desk, _ = desks()
        house = a_house(NAMES)
        does(desk, house, ("make", "/a"))
        row = keep_again(desk.image).rows[-1]
        made = row[8]
        for place, part in [(3, (2, 0)), (3, (0, 0)), (8, None), (8, (2, (2, 0), made[2])), (8, (1, (0, 1), made[2])), (8, (1, (1, 0), "x")), (9, (("ann", 0), ("x",))),
                            (10, 1)]:
            keep = Keep(2000)
            keep.add((*row[:place], part, *row[place + 1:]))
            error = raised(desk_again, keep.image, 40)
            self.assertTrue(error is None and place == 10 or raises_with(error, BadImage, None), place)


class Falls(unittest.TestCase):
    """Each call of a day is cut at each step; the desk that comes back stands as ahead of it, or behind it, and goes on."""

    def setUp(self):
        self.chance = random.Random(91)

    def cut(self, call, desk, house):
        """Makes the call; holds what comes back behind each cut against the desk, which goes on."""
        before, image = standing(desk), desk.image
        told = call(desk)
        behind, ends = standing(desk), set()
        lefts = list(all_left(image, desk.steps, self.chance))
        for left, is_done in lefts:
            again = desk_again(left, 40)
            self.assertIn(standing(again), (behind,) if is_done else (before, behind))
            self.assertEqual((again.rest() is None, again.held), (again.doing is None, 0))
            self.assertEqual(done_steps(left, again.steps), again.image)
            for other, _ in all_left(left, again.steps, self.chance):
                self.assertEqual(standing(desk_again(other, 40)), standing(again))
        for left, _ in self.chance.sample(lefts, min(len(lefts), 6)) + lefts[-1:]:
            ends.add(self.goes_on(desk_again(left, 40), house.copy()))
        return told

    def goes_on(self, desk, house):
        """The open deed is done; then one more, and the desk is packed; the tree is that of all its statements."""
        if desk.doing is not None:
            self.assertEqual(work(desk, house)[0], "done")
        self.assertEqual(does(desk, house, ("write", "/later", "z"))[0], "done")
        self.assertEqual(desk.counts, house.counts)
        desk.pack()
        desk = desk_again(desk.image, 40)
        self.assertEqual(does(desk, house, ("read", "/later")), ("done", ("text", "z")))
        return desk.counts

    def test_a_day(self):
        ann, bob = desks(sectors=300)
        house = a_house(NAMES)
        for deed in [("make", "/a"), ("write", "/a/x", "y" * 300), ("read", "/a/x"), ("make", "/a"), ("put", "/a/x", 299, "zz"), ("list", "/")]:
            self.cut(lambda desk: desk.ask(deed), ann, house)
            while ann.doing is not None:
                answer = house.hear("ann", ann.rest())
                self.cut(lambda desk: desk.hear(answer), ann, house)
            self.cut(lambda desk: desk.pack(), ann, house)
            does(bob, house, ("write", "/b", str(deed)))
            self.cut(lambda desk: desk.meet(bob.counts), ann, house)
        self.assertEqual(sum(ann.counts), 8)

    def test_being_cheated(self):
        ann, bob = desks()
        house = a_house(NAMES)
        does(ann, house, ("make", "/a"))
        other = house.copy()
        does(ann, house, ("make", "/b"))
        for call in (lambda desk: desk.hear(other.hear("ann", desk.rest())), lambda desk: desk.meet((1, 1))):
            desk = desk_again(ann.image, 40)
            desk.ask(("look", "/"))
            image, before = desk.image, standing(desk)
            call(desk)
            self.assertTrue(desk.is_cheated and desk.doing is None)
            for left, is_done in all_left(image, desk.steps, self.chance):
                again = desk_again(left, 40)
                self.assertIn(standing(again), (standing(desk),) if is_done else (before, standing(desk)))
                if not again.is_cheated:
                    self.assertEqual(work(again, other), ("cheated",))

    def test_a_statement_is_said_again_just_as_it_was(self):
        ann, bob = desks()
        house = a_house(NAMES)
        ann.ask(("write", "/x", "y" * 200))
        while ann.made is None:
            ann.hear(house.hear("ann", ann.rest()))
        message = ann.rest()
        self.assertEqual((ann.counts, ann.doing), ((1, 0), ("write", "/x", "y" * 200)))
        for _ in range(3):
            ann = desk_again(ann.image, 40)
            self.assertEqual((ann.rest(), ann.counts), (message, (1, 0)))
        heard = house.copy()
        heard.hear("ann", message)
        for place in (house, heard):
            again = desk_again(ann.image, 40)
            self.assertEqual(work(again, place), ("done", ("done",)))
            self.assertEqual((place.counts, again.counts, again.made[0]), ((1, 0), (1, 0), 1))
            self.assertEqual(does(again, place, ("look", "/x")), ("done", ("file", 200, 1)))


class Houses(unittest.TestCase):
    """Desks that are led to houses whose counts lie to theirs in each way."""

    def setUp(self):
        self.ann, self.bob = desks()
        self.old = a_house(NAMES)
        does(self.bob, self.old, ("make", "/b"))
        self.house = self.old.copy()
        does(self.ann, self.house, ("make", "/a"))

    def led(self, desk, house, deed):
        """What hear told, one after the other; who waits in the house is as before."""
        waiting = house.waiting
        message, told = desk.ask(deed), []
        while not told or told[-1][0] == "say":
            told.append(desk.hear(house.hear(desk.name, message)))
            message = desk.rest()
        self.assertEqual(house.waiting, waiting)
        return [row[0] for row in told]

    def test_two_worlds(self):
        """The example of section 11, at a house of these tests."""
        house = a_house(NAMES)
        ann, bob = desks()
        self.assertEqual(does(ann, house, ("write", "/note", "hello")), ("done", ("done",)))
        self.assertEqual(does(bob, house, ("read", "/note")), ("done", ("text", "hello")))
        self.assertEqual((ann.counts, bob.counts), ((1, 0), (1, 0)))
        other = house.copy()
        self.assertEqual(does(ann, house, ("write", "/note", "one")), ("done", ("done",)))
        self.assertEqual(does(bob, other, ("write", "/note", "two")), ("done", ("done",)))
        self.assertEqual((ann.counts, bob.counts), ((2, 0), (1, 1)))
        self.assertEqual((does(bob, house, ("read", "/note")), bob.is_cheated), (("cheated",), True))
        self.assertEqual((ann.meet((1, 1)), ann.made), ("parted", (2, (2, 0), ("write", "/note", "one"))))
        self.assertTrue(ann.is_cheated)

    def test_somewhere_below_its_own(self):
        for deed in (("look", "/"), ("make", "/c"), ("make", "/a")):
            for house in (self.old, a_house(NAMES), self.old.copy()):
                let_wait(house, ("bob",))
                desk = desk_again(self.ann.image, 40)
                told = self.led(desk, house, deed)
                self.assertEqual((told[-1], "wait" in told, desk.is_cheated), ("cheated", False, True))

    def test_another_row(self):
        does(self.bob, self.old, ("make", "/c"))
        self.assertEqual(self.led(self.ann, self.old, ("make", "/d"))[-1], "cheated")

    def test_somewhere_below_what_it_heard_of(self):
        for deed in (("look", "/"), ("make", "/c")):
            for waiting in ((), ("bob",)):
                desk = desk_again(self.ann.image, 40)
                self.assertEqual(desk.meet((1, 2)), "behind")
                let_wait(self.house, waiting)
                self.assertEqual(self.led(desk, self.house, deed)[-1], "wait")
                desk = desk_again(desk.image, 40)
                for _ in range(4):
                    self.assertEqual(desk.hear(self.house.hear("ann", desk.rest()))[0], "wait")
                self.assertEqual((self.house.waiting, desk.counts), (waiting, (1, 1)))
        let_wait(self.house, ())
        does(self.bob, self.house, ("make", "/more"))
        self.assertEqual(work(desk, self.house), ("done", ("done",)))
        self.assertEqual(desk.counts, (2, 2))

    def test_a_meeting_amid_a_deed(self):
        for rounds in range(1, 6):
            house = self.house.copy()
            desk = desk_again(self.ann.image, 40)
            desk.ask(("write", "/b/x", "y"))
            for _ in range(rounds):
                desk.hear(house.hear("ann", desk.rest()))
            if desk.doing is None:
                break
            is_stated = desk.counts == (2, 1)
            self.assertEqual(desk.meet((1, 2)), "parted" if is_stated else "behind")
            if not is_stated:
                self.assertEqual(work(desk, house)[0], "wait")
                self.assertEqual(desk.counts, (1, 1))
                other = house.copy()
                let_wait(other, ())
                does(desk_again(self.bob.image, 40), other, ("make", "/more"))
                self.assertEqual(work(desk, other), ("done", ("done",)))
                self.assertEqual(desk.counts, (2, 2))

    def test_what_it_stated_already_is_said_all_the_same(self):
        desk = desk_again(self.ann.image, 40)
        desk.ask(("make", "/q"))
        while desk.counts == (1, 1):
            desk.hear(self.house.hear("ann", desk.rest()))
        message = desk.rest()
        self.assertEqual(desk.meet((2, 3)), "behind")
        self.assertEqual(desk.rest(), message)
        self.assertEqual(work(desk, self.house), ("done", ("done",)))
        self.assertEqual(self.led(desk, self.house, ("look", "/"))[-1], "wait")

    def test_a_statement_that_the_house_cannot_keep(self):
        desk = desk_again(self.ann.image, 40)
        desk.ask(("make", "/q"))
        while desk.counts == (1, 1):
            desk.hear(self.house.hear("ann", desk.rest()))
        for house in (self.old, a_house(NAMES)):
            again = desk_again(desk.image, 40)
            self.assertEqual(work(again, house), ("cheated",))
            self.assertEqual((again.counts, again.made[0]), ((2, 1), 2))
        other = self.house.copy()
        let_wait(other, ())
        does(self.bob, other, ("make", "/r"))
        self.assertEqual(work(desk, other), ("cheated",))

    def test_parted_at_other_desks_alone(self):
        """The own count is there, but what the desk goes by of one desk is exchanged for what another one has made."""
        names = ("ann", "bob", "cid")
        ann, bob, cid = [Desk(name, names, 40, 300) for name in names]
        house = a_house(names)
        does(ann, house, ("make", "/a"))
        other = house.copy()
        does(bob, house, ("make", "/b"))
        does(cid, other, ("make", "/c"))
        self.assertEqual(does(ann, house, ("look", "/")), ("done", ("folder", 2)))
        self.assertEqual((ann.counts, other.counts), ((1, 1, 0), (1, 0, 1)))
        for word in ("newest", "turn"):
            desk = desk_again(ann.image, 40)
            desk.ask(("make", "/d"))
            if word == "turn":
                while desk.rest()[0] != "turn":
                    desk.hear(house.hear("ann", desk.rest()))
            self.assertEqual(desk.hear((word, statement_of(other))), ("cheated",))
            self.assertEqual(desk.counts, (1, 1, 0))

    def test_nobody_comes_to_wait_where_the_house_is_below(self):
        """A turn that was to be asked for in one house is asked for in another one."""
        desk = desk_again(self.ann.image, 40)
        desk.meet((1, 2))
        ahead = self.house.copy()
        does(self.bob, ahead, ("make", "/more"))
        for house, word in ((self.house, "wait"), (self.old, "cheated")):
            again = desk_again(desk.image, 40)
            again.ask(("make", "/q"))
            while again.rest()[0] != "turn":
                again.hear(ahead.hear("ann", again.rest()))
            self.assertEqual(again.hear(house.hear("ann", again.rest()))[0], word)
            self.assertEqual(house.waiting, ())

    def test_odd_answers_to_a_statement(self):
        desk = desk_again(self.ann.image, 40)
        desk.ask(("make", "/q"))
        while desk.counts == (1, 1):
            desk.hear(self.house.hear("ann", desk.rest()))
        message = desk.rest()
        for answer in (("newest", statement_of(self.house)), ("wait",), None, ("kept", 1), message, ("newest", 7)):
            self.assertEqual(desk.hear(answer), ("wait", message))
        later = self.house.copy()
        later.hear("ann", message)
        does(self.bob, later, ("make", "/r"))
        for answer in (("newest", message[1]), ("newest", statement_of(later)), ("kept",)):
            again = desk_again(desk.image, 40)
            self.assertEqual(again.hear(answer), ("done", ("done",)))
            self.assertEqual((again.counts, again.rest()), ((2, 1), None))

    def test_another_block_than_the_one_that_is_needed(self):
        desk = desk_again(self.ann.image, 40)
        desk.ask(("list", "/"))
        desk.hear(self.house.hear("ann", desk.rest()))
        block = desk.rest()[1:]
        for other in bag_of(self.house).blocks:
            if other != block:
                self.assertEqual(desk.hear(("block", bag_of(self.house).seal_of(other))), ("wait", ("block", *block)))
                self.assertEqual((desk.held, desk.rest()), (0, ("block", *block)))
        self.assertEqual(work(desk, self.house), ("done", ("names", ("a", "b"))))

    def test_a_block_that_is_not_to_be_had(self):
        """The newest statement is asked for again; if a block is lacking then, too, the desk waits."""
        desk = desk_again(self.ann.image, 40)
        desk.ask(("list", "/"))
        first = desk.rest()
        for _ in range(3):
            told = [desk.hear(self.house.hear("ann", first)), desk.hear(("block", None)), desk.hear(self.house.hear("ann", first)), desk.hear(("block", None))]
            self.assertEqual([row[0] for row in told], ["say", "say", "say", "wait"])
            self.assertEqual((told[1][1], told[3][1]), (first, first))
        self.assertEqual(work(desk, self.house), ("done", ("names", ("a", "b"))))

    def test_turns(self):
        house, ann, bob = self.house, self.ann, self.bob
        ann.ask(("make", "/one"))
        while house.waiting == ():
            ann.hear(house.hear("ann", ann.rest()))
        self.assertEqual(does(bob, house, ("make", "/two"))[0], "wait")
        self.assertEqual(house.waiting, ("ann", "bob"))
        self.assertEqual([work(bob, house)[0] for _ in range(3)], ["wait"] * 3)
        other = Desk("bob", NAMES, 40, 200)
        self.assertEqual(work(ann, house), ("done", ("done",)))
        self.assertEqual((house.waiting, work(bob, house), house.waiting), (("bob",), ("done", ("done",)), ()))
        self.assertEqual((house.counts, other.counts), ((2, 2), (0, 0)))

    def test_a_deed_that_another_one_made_needless(self):
        """Whoever waited for a turn, and finds then that the deed changes nothing, waits no more."""
        house, ann, bob = self.house, self.ann, self.bob
        ann.ask(("make", "/same"))
        while house.waiting == ():
            ann.hear(house.hear("ann", ann.rest()))
        self.assertEqual(does(bob, house, ("make", "/same"))[0], "wait")
        self.assertEqual(work(ann, house), ("done", ("done",)))
        self.assertEqual(work(bob, house), ("done", ("no", "taken")))
        self.assertEqual((house.waiting, bob.counts, bob.made[0]), ((), (2, 1), 1))

    def test_who_only_asks_waits_for_nobody(self):
        let_wait(self.house, ("ann",))
        for deed, answer in [(("list", "/"), ("names", ("a", "b"))), (("make", "/a"), ("no", "taken")), (("cut", "/q", 0), ("no", "missing"))]:
            self.assertEqual(does(self.bob, self.house, deed), ("done", answer))
        self.assertEqual((self.house.waiting, self.bob.made[0], self.bob.counts), (("ann",), 1, (1, 1)))

    def test_blocks_that_are_lacking_again_and_again(self):
        """Each time the house keeps another statement: so the desk never waits."""
        house, bob = self.house, self.bob
        does(self.ann, house, ("write", "/a/x", "0" * 1000))
        bob.ask(("read", "/a/x"))
        bob.hear(house.hear("bob", bob.rest()))
        for number in range(5):
            does(self.ann, house, ("write", "/a/x", str(number) * 1000))
            house.pack()
            told = [bob.hear(house.hear("bob", bob.rest())) for _ in range(2)]
            self.assertEqual([row[0] for row in told], ["say", "say"])
        self.assertEqual(work(bob, house), ("done", ("text", "4" * 1000)))

    def test_answers_that_are_given_twice(self):
        """What answers something else that was said is of no use, and does no harm."""
        for deed in (("list", "/"), ("make", "/q"), ("make", "/a"), ("write", "/a/x", "y" * 300)):
            desk, house, laps = desk_again(self.ann.image, 40), self.house.copy(), 0
            desk.ask(deed)
            while desk.doing is not None:
                answer = house.hear("ann", desk.rest())
                told = desk.hear(answer)
                if told[0] == "say":
                    self.assertEqual(desk.hear(answer), ("wait", told[1]))
                laps += 1
            self.assertEqual((told[0], laps < 20), ("done", True))

    def test_a_packed_house(self):
        """A desk that was amid a deed on an elder tree begins anew."""
        house = self.house
        does(self.ann, house, ("write", "/a/x", "z" * 1000))
        self.bob.ask(("read", "/a/x"))
        self.bob.hear(house.hear("bob", self.bob.rest()))
        does(self.ann, house, ("write", "/a/x", "y" * 1000))
        house.pack()
        self.assertEqual(work(self.bob, house), ("done", ("text", "y" * 1000)))
        self.assertEqual(self.bob.counts, house.counts)


class Room(unittest.TestCase):

    def test_blocks_at_hand(self):
        names = ("ann", "bob")
        house = a_house(names)
        ann, bob = Desk("ann", names, 10000, 2000), Desk("bob", names, 40, 2000)
        for number in range(12):
            does(ann, house, ("write", f"/{number}", str(number) * 1000))
        for number in range(12):
            self.assertEqual(does(bob, house, ("read", f"/{number}"))[1][1][:1], str(number)[:1])
            self.assertLessEqual(bob.held, 40)
        self.assertEqual(bob.held, 40)
        self.assertGreater(ann.held, 200)
        self.assertEqual(ann.counts, bob.counts)

    def test_too_full_to_ask(self):
        desk, _ = desks(sectors=200)
        house = a_house(NAMES)
        self.assertEqual(does(desk, house, ("write", "/x", "y" * 1600)), ("done", ("done",)))
        path = "/abcdefghijkl" * 199
        before = seen(desk)
        for _ in range(2):
            self.assertTrue(raises_with(raised(desk.ask, ("write", path, "y" * 2000)), TooFull, 200))
            self.assertEqual(seen(desk), before)
        self.assertEqual(does(desk, house, ("write", path, "y" * 1000)), ("done", ("no", "missing")))
        self.assertEqual(does(desk, house, ("write", "/x", "")), ("done", ("done",)))
        desk.ask(("write", path, "y" * 2000))

    def test_too_full_to_state(self):
        desk, _ = desks(sectors=200)
        house = a_house(NAMES)
        desk.ask(("write", "/x", "y" * 2000))
        error = None
        while error is None:
            before, answer = seen(desk), house.hear("ann", desk.rest())
            error = raised(desk.hear, answer)
        self.assertTrue(raises_with(error, TooFull, 200))
        self.assertEqual(seen(desk), before)
        self.assertTrue(raises_with(raised(desk.hear, answer), TooFull, 200))
        again = desk_again(desk.image, 40)
        self.assertEqual((again.doing, again.counts), (("write", "/x", "y" * 2000), (0, 0)))
        self.assertEqual(does(Desk("bob", NAMES, 40, 2000), house, ("look", "/")), ("done", ("folder", 0)))

    def test_2000_sectors_are_enough(self):
        """Trees of 60 entries and 4,000 signs, deeds of up to 3,000 signs."""
        desk, _ = desks(sectors=2000)
        house = a_house(NAMES)
        deep = "/" + "/".join(["abc"] * 50)
        for depth in range(1, 51):
            self.assertEqual(does(desk, house, ("make", "/" + "/".join(["abc"] * depth))), ("done", ("done",)))
        for number in range(30):
            for deed in [("write", deep + f"/f{number - number % 2}", "xy" * 1000), ("put", deep + f"/f{number - number % 2}", 3, "z" * 1997), ("write", "/g", "q" * 1990),
                         ("cut", "/g", 0), ("remove", deep + f"/f{number - number % 2}")]:
                self.assertLessEqual(len(value_text(deed)), 3000)
                self.assertEqual(does(desk, house, deed), ("done", ("done",)))
                if number % 5 == 0:
                    desk = desk_again(desk.image, 10000)
        self.assertEqual(sum(desk.counts), 200)


class AsThePlainTree(unittest.TestCase):

    def test_one_desk_after_the_other(self):
        chance = random.Random(95)
        ann, bob = desks(room=60, sectors=20000)
        house, deeds = a_house(NAMES), ()
        for _ in range(150):
            deed = some_deed(chance)
            tree = played(deeds)[1]
            desk = chance.choice((ann, bob))
            before = tree.text
            self.assertEqual(does(desk, house, deed), ("done", tree.done(deed)))
            deeds += (deed,) if tree.text != before else ()
            self.assertEqual((sum(desk.counts), desk.counts), (len(deeds), house.counts))
        self.assertEqual(plain_of(house), tree)


if __name__ == "__main__":
    unittest.main()
