import random
import unittest

from lyinghouse.bag import Bag
from lyinghouse.errors import BadDeed, BadName, BadPath, NoBlock
from lyinghouse.files import file_new
from lyinghouse.plain import PlainTree, parts_of, played
from lyinghouse.trees import tree_blocks, tree_do, tree_many, tree_new, tree_of, tree_plain, tree_thing
from fetching import NAMES, added, fetched, figures, needed, state
from samples import odd_values, raised, raises_with
from test_plain_model import some_deed


def text_before(plain, path):
    told = plain.answer(("read", path))
    return told[1] if told[0] == "text" else ""


def most_added(plain, deed, many):
    """How many blocks the deed may add, with those of section 7 for its text."""
    before, text = len(text_before(plain, deed[1])), 0
    if deed[0] == "write":
        text = len(deed[2]) // 32 + 3
    elif deed[0] == "put":
        text = len(deed[3]) // 32 + 3 + 2 * figures(max(before, deed[2] + len(deed[3])))
    elif deed[0] == "cut":
        text = 3 + 2 * figures(min(before, deed[2]))
    return 12 * (figures(many) + 2) + text


def most_needed(plain, deed, many):
    """How many blocks the deed may need, with those of the text, or of the entries of a folder."""
    paths = deed[1:] if deed[0] in ("link", "move") else deed[1:2]
    parts = sum(len(parts_of(path)) for path in paths)
    before = len(text_before(plain, deed[1]))
    text = 0
    if deed[0] in ("read", "write"):
        text = 2 * (before // 64 + 1)
    elif deed[0] == "part":
        text = deed[3] // 32 + 3 + 2 * figures(before)
    elif deed[0] == "put":
        text = 1 + len(deed[3]) // 32 + 3 + 2 * figures(max(before, deed[2] + len(deed[3])))
    elif deed[0] == "cut":
        text = 1 + 3 + 2 * figures(min(before, deed[2]))
    elif deed[0] == "list":
        text = plain.answer(("look", deed[1]))[1] if plain.answer(deed)[0] == "names" else 0
    return 6 * (parts + 2) * (figures(many + 1) + 2) + text


class Wrong(unittest.TestCase):

    def setUp(self):
        self.bag = Bag()
        self.root = tree_of(self.bag, "ann", played((("make", "/a"), ("write", "/a/x", "one")))[1])

    def stays(self, kind, value, call, *args):
        before = state(self.bag)
        self.assertTrue(raises_with(raised(call, self.bag, *args), kind, value), (call, args))
        self.assertEqual(state(self.bag), before)

    def test_names_come_first(self):
        for odd in odd_values():
            if not (isinstance(odd, str) and odd in ("a", "ann", "seal", "make")):
                self.stays(BadName, odd, tree_new, odd)
                self.stays(BadName, odd, tree_of, odd, PlainTree())
                self.stays(BadName, odd, tree_do, odd, ("bob", 9), "no deed")
                self.stays(BadName, odd, tree_do, odd, self.root, ("list", "/"))

    def test_then_deeds(self):
        for odd in odd_values() + [("look",), ("look", "a"), ["look", "/"], ("put", "/a", -1, ""), ("cut", "/a", True)]:
            self.stays(BadDeed, odd, tree_do, "ann", self.root, odd)
            self.stays(BadDeed, odd, tree_do, "ann", ("bob", 9), odd)

    def test_paths(self):
        for odd in odd_values() + ["a", "/a/", "/A", "", ["/a"], ("/a",)]:
            if not (isinstance(odd, str) and odd == "/"):
                self.stays(BadPath, odd, tree_thing, self.root, odd)
                self.stays(BadPath, odd, tree_thing, ("bob", 9), odd)

    def test_blocks_that_are_not_there(self):
        gone = ("bob", 9)
        self.stays(NoBlock, gone, tree_do, "ann", gone, ("list", "/"))
        self.stays(NoBlock, gone, tree_do, "ann", gone, ("make", "/b"))
        for call in (tree_plain, tree_blocks, tree_many):
            self.stays(NoBlock, gone, call, gone)
        self.stays(NoBlock, gone, tree_thing, gone, "/a")


class Beside(unittest.TestCase):
    """Trees in blocks beside plain trees, with all that is promised of them."""

    def setUp(self):
        self.bag = Bag()

    def done(self, root, plain, deed, name, is_counted=True):
        """Does the deed in both trees; the root behind it."""
        before = plain.text
        ahead = plain.copy()
        answer = plain.done(deed)
        many = len(plain.paths())
        (told, new), blocks = added(lambda bag: tree_do(bag, name, root, deed), self.bag)
        self.assertEqual(told, answer, deed)
        self.assertTrue(all(block[0] == name for block in blocks))
        if plain.text == before:
            self.assertEqual((new, blocks), (root, []), deed)
        else:
            self.assertNotEqual(new, root)
            self.assertLessEqual(len(blocks), most_added(ahead, deed, many), deed)
        self.assertEqual(tree_many(self.bag, new), many)
        if is_counted:
            (told, other), given = fetched(lambda bag: tree_do(bag, name, root, deed), self.bag)
            self.assertEqual(told, answer)
            self.assertLessEqual(len(given), most_needed(ahead, deed, many), deed)
        return new

    def same(self, root, plain):
        self.assertEqual(tree_plain(self.bag, root), plain)
        self.assertEqual(tree_many(self.bag, root), len(plain.paths()))
        things = {path: tree_thing(self.bag, root, path) for path in ("/",) + plain.paths()}
        self.assertTrue(all(type(thing) is int and thing >= 0 for thing in things.values()))
        for path, thing in things.items():
            if path != "/" and plain.answer(("look", path))[0] == "file":
                alike = tuple(sorted(other for other in things if things[other] == thing))
                self.assertEqual(alike, plain.links(path))
            else:
                self.assertEqual([other for other in things if things[other] == thing], [path])
        return things

    def test_many_deeds_and_elder_roots(self):
        chance, seen = random.Random(21), set()
        for _ in range(6):
            plain = PlainTree()
            root = tree_new(self.bag, "ann")
            held = [(root, plain.copy())]
            for number in range(160):
                deed = some_deed(chance)
                seen.add(plain.answer(deed)[1] if plain.answer(deed)[0] == "no" else plain.answer(deed)[0])
                root = self.done(root, plain, deed, chance.choice(NAMES), number % 4 == 0)
                if number % 10 == 0:
                    self.same(root, plain)
                    held.append((root, plain.copy()))
                    old, elder = chance.choice(held)
                    self.done(old, elder.copy(), some_deed(chance), "dan", False)
            for root, plain in held:
                self.same(root, plain)
        self.assertGreater(len(seen), 10)

    def test_things_keep_their_numbers(self):
        chance = random.Random(22)
        plain = PlainTree()
        root = tree_new(self.bag, "ann")
        for _ in range(300):
            deed = some_deed(chance)
            paths = plain.paths()
            before = {path: tree_thing(self.bag, root, path) for path in paths}
            root = self.done(root, plain, deed, "bob", False)
            if deed[0] != "move":
                for path in paths:
                    if path in plain.paths():
                        self.assertEqual(tree_thing(self.bag, root, path), before[path])
            elif deed[1] in before and deed[1] not in plain.paths():
                self.assertEqual(tree_thing(self.bag, root, deed[2]), before[deed[1]])
        self.assertIsNone(tree_thing(self.bag, root, "/zz/y"))

    def test_what_changes_nothing(self):
        plain = played((("make", "/a"), ("write", "/a/x", "x" * 1500), ("write", "/e", ""), ("link", "/a/x", "/y")))[1]
        root = tree_of(self.bag, "ann", plain)
        for deed in [
            ("write", "/y", "x" * 1500), ("put", "/y", 0, "x" * 1500), ("put", "/y", 700, ""), ("put", "/y", 1500, ""), ("cut", "/y", 1500), ("cut", "/y", 2000),
            ("write", "/e", ""), ("cut", "/e", 0), ("put", "/e", 0, ""), ("make", "/a"), ("move", "/a", "/a"), ("link", "/a", "/b"), ("remove", "/a"),
            ("put", "/y", 1501, "x"), ("put", "/y", 1400, "x" * 700), ("read", "/y"), ("part", "/y", 64, 64), ("list", "/a"), ("look", "/y"),
        ]:
            self.assertEqual(self.done(root, plain, deed, "bob"), root)

    def test_texts_at_each_length(self):
        chance = random.Random(23)
        lengths = (0, 1, 63, 64, 65, 1023, 1024, 1025, 1999, 2000)
        for length in lengths:
            plain = played((("write", "/f", "a" * length),))[1]
            root = tree_of(self.bag, "ann", plain)
            for other in lengths:
                self.done(root, plain.copy(), ("write", "/f", "b" * other), "bob")
                self.done(root, plain.copy(), ("write", "/f", "a" * other), "bob")
                self.done(root, plain.copy(), ("cut", "/f", other), "bob")
                self.done(root, plain.copy(), ("put", "/f", other, "ac"), "bob")
                self.done(root, plain.copy(), ("part", "/f", other, chance.choice(lengths)), "bob")
            self.done(root, plain, ("read", "/f"), "bob")

    def test_200_entries_in_one_folder(self):
        plain = PlainTree()
        root = tree_new(self.bag, "ann")
        names = [f"/n{number}" for number in range(200)]
        for at, name in enumerate(names):
            root = self.done(root, plain, ("make", name) if at % 2 else ("write", name, name), "ann", at % 20 == 0)
        for deed in [("make", "/more"), ("write", "/more", ""), ("link", "/n0", "/more"), ("list", "/"), ("look", "/"), ("read", "/n0"),
                     ("move", "/n0", "/n1/x"), ("move", "/n3", "/zz"), ("look", "/zz")]:
            root = self.done(root, plain, deed, "bob")
        self.same(root, plain)
        for path in plain.paths()[::-1]:
            root = self.done(root, plain, ("remove", path), "cy", path[-1] == "0")
        self.assertEqual(tree_plain(self.bag, root), PlainTree())

    def test_200_entries_within_one_another(self):
        plain = PlainTree()
        root = tree_new(self.bag, "ann")
        paths = ["/abc" * depth for depth in range(1, 200)]
        for at, path in enumerate(paths):
            root = self.done(root, plain, ("make", path), "ann", at % 40 == 0)
        deep = paths[-1]
        for deed in [("write", deep + "/f", "hello"), ("make", "/b"), ("read", deep + "/f"), ("link", deep + "/f", deep + "/g"), ("look", deep),
                     ("cut", deep + "/f", 2), ("list", deep), ("move", deep + "/f", "/up"), ("move", "/abc", deep), ("move", "/abc", "/q"),
                     ("remove", deep), ("look", "/q" + deep[4:])]:
            root = self.done(root, plain, deed, "bob")
        self.same(root, plain)
        for path in list(plain.paths())[::-1]:
            root = self.done(root, plain, ("remove", path), "cy", False)
        self.assertEqual(tree_plain(self.bag, root), PlainTree())

    def test_trees_of_plain_trees(self):
        chance = random.Random(24)
        for _ in range(12):
            plain = played(tuple(some_deed(chance) for _ in range(80)))[1]
            before = plain.text
            root, blocks = added(lambda bag: tree_of(bag, "cy", plain), self.bag)
            self.assertTrue(all(block[0] == "cy" for block in blocks))
            self.assertEqual(plain.text, before)
            self.same(root, plain)
        root, blocks = added(lambda bag: tree_new(bag, "dan"), self.bag)
        self.assertTrue(root in blocks and all(block[0] == "dan" for block in blocks))
        self.same(root, PlainTree())


class Needs(unittest.TestCase):

    def setUp(self):
        chance = random.Random(25)
        self.bag = Bag()
        self.plain = played((
            ("make", "/a"), ("make", "/a/b"), ("write", "/a/b/x", "x" * 1500), ("link", "/a/b/x", "/y"), ("write", "/z", "short"),
            *[("make", f"/n{chance.randrange(60)}") for _ in range(60)],
        ))[1]
        self.root = tree_of(self.bag, "ann", self.plain)
        # Something of another tree, which nothing of this one needs.
        tree_do(self.bag, "bob", self.root, ("write", "/a/b/x", "y" * 2000))
        file_new(self.bag, "cy", "z" * 300)

    def asked(self, deed):
        return set(needed(lambda bag: tree_do(bag, "ann", self.root, deed), self.bag))

    def test_blocks_of_the_tree(self):
        blocks = tree_blocks(self.bag, self.root)
        self.assertEqual(blocks, tuple(needed(lambda bag: tree_blocks(bag, self.root), self.bag)))
        self.assertEqual(blocks, tuple(needed(lambda bag: tree_plain(bag, self.root), self.bag)))
        asking = set()
        for path in ("/",) + self.plain.paths():
            is_folder = self.plain.answer(("look", path))[0] == "folder"
            asking |= self.asked(("look", path)) | self.asked(("list", path) if is_folder else ("read", path))
        self.assertEqual(asking, set(blocks))
        chance = random.Random(26)
        for _ in range(30):
            self.assertLessEqual(self.asked(some_deed(chance)), set(blocks))

    def test_blocks_of_things(self):
        for path in ("/", "/a", "/a/b/x", "/y", "/q", "/a/b/x/y", "/a/q/r"):
            needs = set(needed(lambda bag: tree_thing(bag, self.root, path), self.bag))
            self.assertLessEqual(needs, self.asked(("look", path)))
        self.assertLessEqual(len(needed(lambda bag: tree_many(bag, self.root), self.bag)), 1)

    def test_what_is_gone_has_no_blocks(self):
        text = self.asked(("read", "/y")) - self.asked(("look", "/y"))
        root = self.root
        for path in self.plain.links("/y"):
            self.assertLessEqual(text, set(tree_blocks(self.bag, root)))
            root = tree_do(self.bag, "ann", root, ("remove", path))[1]
        self.assertEqual(text & set(tree_blocks(self.bag, root)), set())
        root = tree_do(self.bag, "ann", self.root, ("cut", "/y", 0))[1]
        self.assertEqual(text & set(tree_blocks(self.bag, root)), set())

    def test_fetched_one_by_one(self):
        for call in (tree_plain, tree_blocks, tree_many):
            told, given = fetched(lambda bag: call(bag, self.root), self.bag)
            self.assertEqual(told, call(self.bag, self.root))
        told, given = fetched(lambda bag: tree_thing(bag, self.root, "/a/b/x"), self.bag)
        self.assertEqual(told, tree_thing(self.bag, self.root, "/y"))

    def test_texts_are_not_needed_for_what_leaves_them(self):
        for path in self.plain.links("/y"):
            few = self.asked(("look", path))
            self.assertGreaterEqual(len(self.asked(("read", path)) - few), 24)
            self.assertLessEqual(len(self.asked(("part", path, 64, 64)) - few), 2)
            self.assertEqual(self.asked(("remove", path)) & self.asked(("read", path)) - few, set())


class Copies(unittest.TestCase):

    def test_copies_go_on_by_themselves(self):
        bag = Bag()
        root = tree_of(bag, "ann", played((("write", "/x", "one"),))[1])
        other = bag.copy()
        mine, its = tree_do(bag, "ann", root, ("write", "/x", "mine"))[1], tree_do(other, "ann", root, ("remove", "/x"))[1]
        self.assertEqual((tree_do(bag, "ann", mine, ("read", "/x"))[0], tree_many(other, its)), (("text", "mine"), 0))
        self.assertEqual(tree_plain(bag, root), tree_plain(other, root))

    def test_arguments_may_be_named(self):
        bag = Bag()
        root = tree_new(bag=bag, name="ann")
        answer, root = tree_do(bag=bag, name="ann", root=root, deed=("make", "/a"))
        self.assertEqual(tree_plain(bag=bag, root=tree_of(bag=bag, name="bob", plain=tree_plain(bag=bag, root=root))).paths(), ("/a",))
        self.assertEqual((tree_many(bag=bag, root=root), tree_thing(bag=bag, root=root, path="/b")), (1, None))
        self.assertIn(root, tree_blocks(bag=bag, root=root))


if __name__ == "__main__":
    unittest.main()
