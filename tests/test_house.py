import random
import unittest

from falling import all_left
from honest import a_house, bag_of, does, kept, let_wait, plain_of, statement_of, work
from lyinghouse.desk import Desk, desk_again
from lyinghouse.discs import done_steps, new_image
from lyinghouse.errors import BadImage, BadNames, BadNumber, BadValue, NoDesk, TooFull
from lyinghouse.house import House, house_again
from lyinghouse.keeps import Keep, keep_again
from lyinghouse.plain import played
from lyinghouse.trees import tree_blocks
from lyinghouse.values import all_seals, is_value
from samples import nested, odd_values, raised, raises_with

NAMES = ("ann", "bob")


def desks(names=NAMES):
    return [Desk(name, names, 100, 2000) for name in names]


def seen(house):
    """All that can be seen of a house, and what it keeps."""
    return kept(house), house.image, house.steps


def asked_to(desk, house, deed, word):
    """The desk asks for the deed, and goes on until what it says next begins with this word."""
    desk.ask(deed)
    while desk.rest()[0] != word:
        desk.hear(house.hear(desk.name, desk.rest()))
    return desk.rest()


class Making(unittest.TestCase):

    def test_a_new_house(self):
        house = House(("ann", "bob", "cid"), 1000)
        self.assertEqual((house.names, house.counts, house.waiting), (("ann", "bob", "cid"), (0, 0, 0), ()))
        self.assertEqual((len(house.image), done_steps(new_image(1000), house.steps)), (1000, house.image))
        self.assertEqual(house.steps[-1], ("fence",))
        self.assertEqual(len(House(names=("a", "b", "c", "d", "e"), sectors=20000).image), 20000)

    def test_errors_in_their_order(self):
        for odd in odd_values() + [("ann",), ("bob", "ann"), ("ann", "ann"), ["ann", "bob"], ("a", "b", "c", "d", "e", "f"), ("ann", "Bob")]:
            self.assertTrue(raises_with(raised(House, odd, 0), BadNames, odd))
        for odd in odd_values() + [999, 20001, -1000, 1000.0]:
            if not (type(odd) is int and 1000 <= odd <= 20000):
                self.assertTrue(raises_with(raised(House, NAMES, odd), BadNumber, odd))


class Hearing(unittest.TestCase):

    def setUp(self):
        self.house = a_house(NAMES)
        self.ann, self.bob = desks()
        does(self.ann, self.house, ("make", "/a"))
        does(self.bob, self.house, ("write", "/a/x", "y" * 100))
        let_wait(self.house, ("bob",))

    def changes_nothing(self, name, message):
        before = kept(self.house), self.house.image
        self.assertTrue(is_value(self.house.hear(name, message)), message)
        self.assertEqual((kept(self.house), self.house.image, self.house.steps), (*before, ()))

    def test_errors_in_their_order(self):
        before = seen(self.house)
        for odd in odd_values() + ["cid", "Ann", ("ann",)]:
            if not (isinstance(odd, str) and odd == "ann"):
                self.assertTrue(raises_with(raised(self.house.hear, odd, [1]), NoDesk, odd))
        for odd in odd_values() + [nested(31, 1), ("newest", []), ("seal", "ann", [])]:
            if not is_value(odd):
                self.assertTrue(raises_with(raised(self.house.hear, "ann", odd), BadValue, odd))
        self.assertEqual(seen(self.house), before)
        self.assertEqual(self.house.hear(message=("newest",), name="bob"), ("newest", statement_of(self.house)))

    def test_values_that_are_no_messages(self):
        words = ("newest", "block", "turn", "free", "keep", "freed", "kept", "wait", "house", "seal")
        # To be free of what was asked for with numbers below 0 changes nothing, either.
        forms = [odd for odd in odd_values() if is_value(odd)] + [nested(30, 1)]
        forms += [word for word in words] + [(word,) for word in words]
        forms += [(word, part) for word in words for part in (None, 0, "ann", (), (0,), (0, 0, 0), (1, -1), (1, None), ("ann", 0))]
        forms += [(word, *parts) for word in words for parts in (("ann", 0, 0), ("Ann", 0), ("ann", -1), ("ann", "0"), ((1, 1), -1), ((1, 1), None), ((1,), 0), ((1, 2), 0), ((2, 0), 0), (None, None), (0, ()))]
        for form in forms:
            for name in NAMES:
                self.changes_nothing(name, form)

    def test_seals_of_names_that_are_none_of_the_names(self):
        strange = ("seal", "zed", 1)
        message = asked_to(self.ann, self.house, ("cut", "/a/x", 3), "turn")
        let_wait(self.house, ())
        for bent in [strange, (strange,), ("newest", strange), ("free", strange), ("free", 7, strange), (message, strange), ("turn", (strange, 0), 0), ("turn", (1, 1), strange), nested(25, strange)]:
            self.changes_nothing("ann", bent)
        self.house.hear("ann", message)
        self.ann.hear(self.house.hear("ann", message))
        message = self.ann.rest()
        self.assertEqual(message[0], "keep")
        for bent in [(*message[:2], (*message[2], strange)), (*message, strange), ("keep", strange, message[2]), ("keep", message[1], strange),
                     (*message[:2], (*message[2], ("seal", "ann", ("block", 999, (0, ("seal", "zed", 0))))))]:
            self.changes_nothing("ann", bent)
        self.assertEqual(self.house.hear("ann", message), ("kept",))
        self.assertEqual(self.house.counts, (2, 1))

    def test_bent_messages(self):
        let_wait(self.house, ())
        message = asked_to(self.ann, self.house, ("write", "/a/x", "z" * 300), "keep")
        before = statement_of(self.house)
        seals = message[2]
        bents = [("keep", message[1], seals[:at] + seals[at + 1:]) for at in range(len(seals))]
        bents += [("keep", message[1], part) for part in ((), None, 0, (None,), (message[1],), (*seals, 7), (*seals, message[1]))]
        bents += [("keep", part, seals) for part in (None, 0, seals[0], before)] + [message[:2], (*message, 0)]
        for bent in bents:
            self.changes_nothing("ann", bent)
            self.changes_nothing("bob", bent)
        self.changes_nothing("bob", message)
        self.assertEqual((self.house.counts, self.house.waiting), ((1, 1), ("ann",)))
        self.assertEqual(work(self.ann, self.house), ("done", ("done",)))

    def test_what_is_said_several_times(self):
        for deed in (("read", "/a/x"), ("make", "/b"), ("make", "/b"), ("cut", "/a/x", 2)):
            let_wait(self.house, ())
            self.ann.ask(deed)
            while self.ann.doing is not None:
                message = self.ann.rest()
                answer = self.house.hear("ann", message)
                before = kept(self.house)
                for _ in range(3):
                    self.assertEqual(self.house.hear("ann", message), answer)
                    self.assertEqual((kept(self.house), self.house.steps), (before, ()))
                self.ann.hear(answer)
        self.assertEqual((self.house.counts, self.house.waiting), ((3, 1), ()))

    def test_what_is_said_again_long_after(self):
        """Whatever a desk said for deeds that are done gives and takes no turns."""
        let_wait(self.house, ())
        said = []
        for number in range(6):
            for deed in (("make", f"/b{number}"), ("make", "/a"), ("write", "/x", str(number))):
                self.ann.ask(deed)
                if number == 3:
                    # Behind a fall it may have waited, as far as it knows: so it asks to be free.
                    self.ann = desk_again(self.ann.image, 40)
                while self.ann.doing is not None:
                    for message in said:
                        waiting = self.house.waiting
                        self.house.hear("ann", message)
                        self.assertEqual((self.house.waiting, self.house.counts[0]), (waiting, self.ann_counts()))
                    said.append(self.ann.rest())
                    told = self.ann.hear(self.house.hear("ann", said[-1]))
                    self.assertNotEqual(told[0], "wait")
        self.assertEqual(sorted({message[0] for message in said}), ["block", "free", "keep", "newest", "turn"])
        for message in said:
            self.house.hear("ann", message)
        self.assertEqual(self.house.waiting, ())

    def ann_counts(self):
        """How many of ann's statements the house has heard."""
        return self.ann.counts[0] - (1 if self.ann.rest()[0] == "keep" and self.house.counts[0] < self.ann.counts[0] else 0)

    def test_a_turn_that_is_needed_again(self):
        """A desk that is free of its turn falls, and finds then that its deed needs it."""
        let_wait(self.house, ())
        house, other = self.house, self.house.copy()
        asked_to(self.ann, house, ("make", "/q"), "turn")
        house.hear("ann", self.ann.rest())
        does(self.bob, other, ("make", "/q"))
        # Somebody gives the wrong answer; so the desk is told of a tree in which there is nothing to be done.
        self.ann.hear(("turn", statement_of(other)))
        while self.ann.rest()[0] != "free":
            self.ann.hear(other.hear("ann", self.ann.rest()))
        self.assertEqual((house.waiting, house.hear("ann", self.ann.rest()), house.waiting), (("ann",), ("freed",), ()))
        self.ann = desk_again(self.ann.image, 40)
        self.assertEqual(work(self.ann, house), ("done", ("done",)))
        self.assertEqual((house.waiting, house.counts), ((), (2, 1)))

    def test_seals_are_handed_on_alone(self):
        for message in [("newest",), ("turn", (1, 1), 0), ("turn", (1, 2), 0)] + [("block", *block) for block in bag_of(self.house).blocks]:
            for seal in all_seals(self.house.hear("ann", message)):
                self.assertIn(seal, [statement_of(self.house)] + [bag_of(self.house).seal_of(block) for block in bag_of(self.house).blocks])


class Turns(unittest.TestCase):

    def setUp(self):
        self.names = ("ann", "bob", "cid")
        self.house = a_house(self.names)
        self.desks = {desk.name: desk for desk in desks(self.names)}

    def test_in_the_order_in_which_they_asked(self):
        for name in ("bob", "cid", "ann"):
            asked_to(self.desks[name], self.house, ("make", "/" + name), "turn")
        for name in ("cid", "ann", "bob"):
            self.desks[name].hear(self.house.hear(name, self.desks[name].rest()))
        self.assertEqual(self.house.waiting, ("cid", "ann", "bob"))
        for _ in range(3):
            self.assertEqual([work(self.desks[name], self.house)[0] for name in ("ann", "bob")], ["wait", "wait"])
            self.house = house_again(self.house.image)
            self.house.pack()
        for many, name in enumerate(("cid", "ann", "bob")):
            self.assertEqual(self.house.waiting, ("cid", "ann", "bob")[many:])
            self.assertEqual(work(self.desks[name], self.house), ("done", ("done",)))
        self.assertEqual((self.house.counts, self.house.waiting), ((1, 1, 1), ()))
        self.assertEqual(plain_of(self.house).paths(), ("/ann", "/bob", "/cid"))

    def test_who_has_the_turn_keeps_it_until_its_deed_is_refused(self):
        asked_to(self.desks["ann"], self.house, ("make", "/x"), "keep")
        for name in ("bob", "cid"):
            self.desks[name].ask(("make", "/x"))
            self.assertEqual(work(self.desks[name], self.house)[0], "wait")
        self.assertEqual(self.house.waiting, self.names)
        self.assertEqual([work(self.desks[name], self.house) for name in self.names], [("done", ("done",)), ("done", ("no", "taken")), ("done", ("no", "taken"))])
        self.assertEqual((self.house.waiting, self.house.counts), ((), (1, 0, 0)))

    def test_who_only_asks_waits_for_nobody(self):
        asked_to(self.desks["ann"], self.house, ("make", "/x"), "keep")
        for deed, answer in [(("list", "/"), ("names", ())), (("look", "/x"), ("no", "missing")), (("remove", "/x"), ("no", "missing"))]:
            self.assertEqual(does(self.desks["bob"], self.house, deed), ("done", answer))
        self.assertEqual(self.house.waiting, ("ann",))

    def test_a_statement_of_somebody_who_has_not_the_turn(self):
        """Desks that were led away from where they had the turn."""
        other = self.house.copy()
        asked_to(self.desks["ann"], self.house, ("make", "/x"), "keep")
        let_wait(other, ("bob",))
        self.assertEqual(work(self.desks["ann"], other)[0], "wait")
        self.assertEqual((other.waiting, other.counts), (("bob",), (0, 0, 0)))
        let_wait(other, ())
        self.assertEqual(work(self.desks["ann"], other), ("done", ("done",)))
        self.assertEqual((other.counts, self.house.counts, self.house.waiting), ((1, 0, 0), (0, 0, 0), ("ann",)))


class Copies(unittest.TestCase):

    def test_equal_calls(self):
        houses = [a_house(NAMES, 1000), a_house(NAMES, 1000)]
        pairs = [desks(), desks()]
        for deed in (("make", "/a"), ("write", "/a/x", "y" * 90), ("list", "/a"), ("remove", "/a")):
            for at in (0, 1):
                told = [does(pair[at], house, deed) for pair, house in zip(pairs, houses)]
                self.assertEqual(told[0], told[1])
            self.assertEqual((seen(houses[0]), pairs[0][0].image), (seen(houses[1]), pairs[1][0].image))

    def test_what_is_done_with_one_does_not_change_the_other(self):
        house = a_house(NAMES, 1000)
        ann, bob = desks()
        does(ann, house, ("write", "/x", "one"))
        let_wait(house, ("bob", "ann"))
        other = house.copy()
        self.assertEqual(seen(other), seen(house))
        before = seen(other)
        let_wait(house, ())
        does(ann, house, ("write", "/x", "two"))
        house.pack()
        self.assertEqual(seen(other), before)
        before = seen(house)
        self.assertEqual(work(bob, other) if bob.doing else does(bob, other, ("write", "/x", "three")), ("done", ("done",)))
        other.pack()
        self.assertEqual((seen(house), other.counts), (before, (1, 1)))
        self.assertEqual(kept(house_again(other.image)), kept(other))


class Falls(unittest.TestCase):
    """Each call of a day is cut at each step; the house that comes back stands as ahead of it, or behind it."""

    def setUp(self):
        self.chance = random.Random(81)

    def cut(self, house, call, *args):
        before, image = kept(house), house.image
        told = getattr(house, call)(*args)
        behind = kept(house)
        self.assertEqual(done_steps(image, house.steps), house.image)
        lefts = {}
        for left, is_done in all_left(image, house.steps, self.chance):
            lefts[left] = lefts.get(left, False) or is_done
        for left, is_done in lefts.items():
            again = house_again(left)
            self.assertIn(kept(again), (behind,) if is_done else (before, behind))
            self.assertEqual(done_steps(left, again.steps), again.image)
            for other, _ in all_left(left, again.steps, self.chance):
                self.assertEqual(kept(house_again(other)), kept(again))
            # It goes on: a change more is there behind the next fall.
            if call == "hear" and self.chance.random() < 0.05:
                self.assertEqual(again.hear(*args), told)
                self.assertEqual(kept(house_again(again.image)), behind)
                again.pack()
                self.assertEqual(kept(house_again(again.image)), kept(again))
        return told

    def test_a_day(self):
        ann, bob = desks()
        house = a_house(NAMES, 1000)
        for number, deed in enumerate([("make", "/a"), ("write", "/a/x", "y" * 130), ("read", "/a/x"), ("make", "/a"), ("cut", "/a/x", 70)]):
            for desk in (ann, bob):
                desk.ask(deed)
                while desk.doing is not None:
                    desk.hear(self.cut(house, "hear", desk.name, desk.rest()))
            self.cut(house, "hear", "ann", ("turn", house.counts, 99))
            if number > 1:
                self.cut(house, "pack")
            let_wait(house, ())
        self.assertEqual(sum(house.counts), 3)


class Packs(unittest.TestCase):

    def test_what_is_kept(self):
        house = a_house(NAMES)
        ann, bob = desks()
        house.pack()
        self.assertEqual(kept(house_again(house.image)), kept(house))
        for number in range(8):
            does(ann, house, ("write", "/x", str(number) * 500))
        let_wait(house, ("bob", "ann"))
        many, before = len(bag_of(house)), kept(house)[:-1]
        image = house.image
        self.assertIsNone(house.pack())
        self.assertEqual((kept(house)[:-1], done_steps(image, house.steps)), (before, house.image))
        self.assertEqual((bag_of(house).blocks, len(bag_of(house)) < many), (tree_blocks(bag_of(house), statement_of(house)[2][3]), True))
        self.assertEqual(kept(house_again(house.image)), kept(house))
        let_wait(house, ())
        self.assertEqual(does(bob, house, ("read", "/x")), ("done", ("text", "7" * 500)))

    def test_amid_a_deed_on_an_elder_tree(self):
        for call in (lambda house: house.pack() or house, lambda house: house_again(house.image)):
            house = a_house(NAMES)
            ann, bob = desks()
            does(ann, house, ("write", "/x", "1" * 1500))
            bob.ask(("read", "/x"))
            told = [bob.hear(house.hear("bob", bob.rest())) for _ in range(5)]
            does(ann, house, ("write", "/x", "2" * 1500))
            house = call(house)
            self.assertIn(work(bob, house), (("done", ("text", "1" * 1500)), ("done", ("text", "2" * 1500))))
            self.assertEqual({row[0] for row in told}, {"say"})


class Room(unittest.TestCase):

    def test_a_house_that_is_full_packs(self):
        house = a_house(NAMES, 1000)
        ann = desks()[0]
        for number in range(60):
            self.assertEqual(does(ann, house, ("write", "/x", f"{number:03d}" * 600)), ("done", ("done",)))
        self.assertLess(len(keep_again(house.image)), 100)
        self.assertEqual((house.counts, kept(house_again(house.image))), ((60, 0), kept(house)))

    def test_too_full(self):
        house = a_house(NAMES, 1000)
        ann, bob = desks()
        error, number = None, 0
        while error is None:
            ann.ask(("write", f"/{number}", f"{number:03d}" * 600))
            while ann.doing is not None and error is None:
                before, message = seen(house), ann.rest()
                error = raised(house.hear, "ann", message)
                if error is None:
                    ann.hear(house.hear("ann", message))
            number += 1
        self.assertTrue(raises_with(error, TooFull, 1000))
        self.assertGreater(number, 5)
        self.assertEqual(seen(house), before)
        self.assertTrue(raises_with(raised(house.hear, "ann", message), TooFull, 1000))
        self.assertEqual(does(bob, house, ("look", "/")), ("done", ("folder", number - 1)))
        house.pack()
        self.assertEqual((kept(house)[:-1], house.waiting), (before[0][:-1], ("ann",)))
        self.assertTrue(raises_with(raised(house.hear, "ann", message), TooFull, 1000))
        self.assertEqual(kept(house_again(house.image)), kept(house))

    def test_6000_sectors_are_enough(self):
        house = a_house(NAMES, 6000)
        ann, bob = desks()
        deep = "/" + "/".join(["abc"] * 50)
        for depth in range(1, 51):
            self.assertEqual(does(ann, house, ("make", "/" + "/".join(["abc"] * depth))), ("done", ("done",)))
        for number in range(60):
            path = deep + f"/f{number // 2 % 3}"
            for deed in (("write", path, f"{number:02d}" * 600), ("cut", path, number), ("put", path, number, "z" * 1200), ("write", "/g", "q" * number)):
                self.assertEqual(does(ann, house, deed), ("done", ("done",)))
            house.hear("bob", ("keep", ("x" * 19000,), number))
        self.assertEqual(does(bob, house, ("look", "/")), ("done", ("folder", 2)))

    def test_the_room_of_desks_is_small(self):
        """A deep tree, and desks that keep 40 blocks: no deed needs 3,000 answers."""
        names = ("ann", "bob")
        ann, bob = Desk("ann", names, 10000, 2000), Desk("bob", names, 40, 20000)
        house = a_house(names, 20000)
        path = ""
        for depth in range(199):
            path += "/abcdefghijkl"
            self.assertEqual(does(ann, house, ("make", path)), ("done", ("done",)))
        for deed in (("write", path + "/x", "y" * 2000), ("read", path + "/x"), ("cut", path + "/x", 1), ("move", path + "/x", path + "/z"), ("list", path)):
            bob.ask(deed)
            answer = work(bob, house)
            self.assertEqual(answer[0], "done")
            self.assertNotEqual(answer[1][0], "no")
        self.assertEqual(answer, ("done", ("names", ("z",))))


class Again(unittest.TestCase):

    def test_what_is_no_image_of_a_house(self):
        house = a_house(NAMES, 1000)
        ann, _ = desks()
        does(ann, house, ("make", "/a"))
        let_wait(house, ("bob",))
        rows = keep_again(house.image).rows
        images = [new_image(16), new_image(1000), new_image(15), house.image[:-1] + ("x",), list(house.image), ann.image]
        rows_of = [(), ((),), (1,), ("house",), (("house",),), (("desk", NAMES),), (("house", ("ann",)),), (("house", NAMES, 1),), (("house", "ab"),)]
        head = rows[0]
        statement, seals = rows[-2][1:]
        rows_of += [(head, row) for row in (
            None, (), ("kept",), ("kept", statement), ("kept", None, seals), ("kept", statement, None), ("kept", statement, (None,)), ("kept", statement, (statement,)),
            ("waits",), ("waits", ()), ("waits", None, (0, 0)), ("waits", (("cid", 0),), (0, 0)), ("waits", (("ann", 0), ("ann", 1)), (0, 0)), ("waits", ("ann",), (0, 0)), ("waits", (("ann",),), (0, 0)),
            ("waits", (("ann", -1),), (0, 0)), ("waits", (("ann", 0, 0),), (0, 0)), ("waits", (), (0,)), ("waits", (), (0, 0, 0)), ("waits", (), (0, -1)), ("waits", (), None), ("waits", (), (0, 0), 1), ("held", (), (0, 0)))]
        rows_of += [(head, rows[-2], ("kept", statement, (("seal", "ann", ("block", seals[0][2][1], "other")),)))]
        for values in rows_of:
            keep = Keep(1000)
            keep.pack(values)
            images.append(keep.image)
        small = Keep(999)
        small.add(head)
        for image in images + [small.image] + odd_values():
            self.assertTrue(raises_with(raised(house_again, image), BadImage, None))
        self.assertEqual(house_again(image=house.image).waiting, ("bob",))

    def test_it_stands_alike(self):
        house = a_house(NAMES, 1000)
        ann, bob = desks()
        for again in (lambda: house_again(house.image), lambda: house_again(house.copy().image)):
            for deed in (("write", "/x", "one"), ("make", "/y")):
                does(ann, house, deed)
                house = again()
                self.assertEqual((house.steps, house.names), ((), NAMES))
                does(bob, house, ("remove", deed[1]))
                house = again()
        self.assertEqual((house.counts, house.waiting), ((4, 4), ()))
        self.assertEqual(plain_of(house), played(())[1])


if __name__ == "__main__":
    unittest.main()
