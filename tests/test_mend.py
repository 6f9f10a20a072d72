import random
import unittest

from fetching import NAMES, added, needed, sizes, state
from lyinghouse.bag import Bag
from lyinghouse.errors import BadDeed, BadName, BadRoots, NoBlock
from lyinghouse.mend import lacks, lost_paths, mended, mended_by, needs, saved_paths
from lyinghouse.plain import PlainTree, played
from lyinghouse.trees import tree_blocks, tree_do, tree_new, tree_of, tree_plain
from samples import odd_values, raised, raises_with
from test_plain_model import some_deed


def can_answer(bag, root, deed):
    """What tree_do answers; None if it raises NoBlock."""
    try:
        return tree_do(bag, "ann", root, deed)[0]
    except NoBlock:
        return None


def told_by_listing(bag, root):
    """The saved paths, each with what is there, and the lost ones: word by word as section 13 tells."""
    saved, lost, ahead = {}, [], []
    listed = can_answer(bag, root, ("list", "/"))
    if listed is None:
        return {}, ("/",)
    saved["/"] = None
    ahead = ["/" + name for name in listed[1]]
    while ahead:
        path = ahead.pop()
        look = can_answer(bag, root, ("look", path))
        ask = look and can_answer(bag, root, ("list" if look[0] == "folder" else "read", path))
        if ask is None:
            lost.append(path)
        elif look[0] == "folder":
            saved[path] = None
            ahead.extend(path + "/" + name for name in ask[1])
        else:
            saved[path] = ask[1]
    return saved, tuple(sorted(lost))


def things(plain):
    """What is at each path: None for a folder, otherwise the text, and all paths of the file."""
    found = {"/": None}
    for path in plain.paths():
        is_folder = plain.answer(("look", path))[0] == "folder"
        found[path] = None if is_folder else (plain.answer(("read", path))[1], plain.links(path))
    return found


def some_tree(chance, many=60):
    """A bag with a tree that came about by many deeds, and all roots on the way; so blocks are shared in each way."""
    bag = Bag()
    roots = [tree_new(bag, "ann")]
    for _ in range(many):
        root = tree_do(bag, chance.choice(("ann", "bob")), roots[-1], some_deed(chance))[1]
        if root != roots[-1]:
            roots.append(root)
    return bag, roots


def grown_tree(chance):
    """As some_tree, with more entries."""
    plain = PlainTree()
    folders = [""]
    for number in range(60):
        path = f"{chance.choice(folders)}/{number}"
        if chance.random() < 0.3:
            plain.done(("make", path))
            folders.append(path)
        else:
            plain.done(("write", path, chance.choice("xyz") * chance.choice((0, 10, 200))))
    bag = Bag()
    roots = [tree_of(bag, "ann", plain)]
    for _ in range(25):
        path, new = chance.choice(plain.paths()), f"{chance.choice(folders)}/{chance.choice('abc')}"
        deed = chance.choice((("put", path, 0, "new"), ("cut", path, 5), ("link", path, new), ("move", path, new), ("remove", path), ("make", new)))
        root = tree_do(bag, "bob", roots[-1], deed)[1]
        plain.done(deed)
        roots += [root] if root != roots[-1] else []
    return bag, roots


def without(bag, blocks):
    """The bag, but for these blocks."""
    poor = bag.copy()
    for block in blocks:
        poor.let_go(block)
    return poor


class Asked(unittest.TestCase):

    def setUp(self):
        self.bag, roots = some_tree(random.Random(21), 150)
        self.root = roots[-1]
        self.plain = tree_plain(self.bag, self.root)

    def test_needs(self):
        for path in ("/", "/q", *self.plain.paths()):
            for deed in (("list", path), ("look", path), ("read", path), ("part", path, 70, 3)):
                told = needs(self.bag, self.root, deed)
                self.assertEqual(told, tuple(needed(lambda bag: tree_do(bag, "ann", self.root, deed), self.bag)))
                self.assertIn(self.root, told)
        for block in needs(self.bag, self.root, ("list", "/")):
            poor = without(self.bag, [block])
            self.assertTrue(raises_with(raised(needs, poor, self.root, ("list", "/")), NoBlock, block))

    def test_needs_refuses(self):
        for odd in odd_values() + [("make", "/a"), ("write", "/a", ""), ("put", "/a", 0, ""), ("cut", "/a", 0), ("link", "/a", "/b"), ("move", "/a", "/b"),
                                   ("remove", "/a"), ("look", "a"), ["look", "/"], ("part", "/a", True, 0)]:
            self.assertTrue(raises_with(raised(needs, Bag(), self.root, odd), BadDeed, odd))
        self.assertTrue(raises_with(raised(needs, Bag(), self.root, ("look", "/")), NoBlock, self.root))
        self.assertEqual(needs(deed=("look", "/"), root=self.root, bag=self.bag), needs(self.bag, self.root, ("look", "/")))

    def test_lacks(self):
        chance = random.Random(22)
        blocks = tree_blocks(self.bag, self.root)
        self.assertIsNone(lacks(self.bag, self.root))
        for block in blocks:
            self.assertEqual(lacks(without(self.bag, [block]), self.root), block)
        for many in (2, 5, len(blocks)):
            gone = chance.sample(blocks, many)
            poor, goes = without(self.bag, gone), []
            while lacks(poor, self.root) is not None:
                goes.append(lacks(poor, self.root))
                poor.take(self.bag.seal_of(goes[-1]))
            self.assertEqual(sorted(goes), sorted(gone))
        self.assertIsNone(lacks(without(self.bag, [block for block in self.bag.blocks if block not in blocks]), self.root))


class Mending(unittest.TestCase):

    def mends(self, bag, root, name="cy"):
        """Holds all that is told of the root against what can be listed; a mended tree, if anything is lost."""
        saved, lost = told_by_listing(bag, root)
        before = state(bag)
        self.assertEqual((saved_paths(bag, root), lost_paths(bag, root)), (tuple(sorted(saved)), lost))
        self.assertEqual(state(bag), before)
        told, new = added(lambda bag: mended(bag, name, root), bag)
        if not lost:
            self.assertEqual((told, new), (root, []))
            return told
        self.assertTrue(all(block[0] == name for block in new) and told in new)
        self.assertEqual((lost_paths(bag, told), saved_paths(bag, told)), ((), tuple(sorted({"/", *saved}))))
        self.assertEqual(added(lambda bag: mended(bag, name, told), bag), (told, []))
        self.assertEqual({path: thing and thing[0] for path, thing in things(tree_plain(bag, told)).items()}, {"/": None, **saved})
        return told

    def test_each_block_alone(self):
        for seed in range(3):
            bag, roots = some_tree(random.Random(seed))
            whole = things(tree_plain(bag, roots[-1]))
            for block in tree_blocks(bag, roots[-1]):
                poor = without(bag, [block])
                there = things(tree_plain(poor, self.mends(poor, roots[-1])))
                for path, thing in there.items():
                    if thing is not None:
                        self.assertEqual(thing, (whole[path][0], tuple(link for link in whole[path][1] if link in there)))

    def test_some_and_many(self):
        chance = random.Random(23)
        for seed in range(60):
            bag, roots = some_tree(random.Random(seed), chance.choice((5, 40, 120)))
            blocks = tree_blocks(bag, roots[-1])
            gone = chance.sample(blocks, min(len(blocks), chance.choice((0, 2, 3, 6, 20))))
            self.mends(without(bag, gone), roots[-1], chance.choice(NAMES))

    def test_the_root_is_lost(self):
        bag, roots = some_tree(random.Random(24))
        for poor in (without(bag, [roots[-1]]), Bag()):
            self.assertEqual((saved_paths(poor, roots[-1]), lost_paths(poor, roots[-1])), ((), ("/",)))
            self.assertEqual(tree_plain(poor, mended(poor, "cy", roots[-1])), PlainTree())

    def test_deep_and_full_trees(self):
        plain, path = PlainTree(), ""
        for _ in range(198):
            path += "/abcdefghijkl"
            plain.done(("make", path))
        plain.done(("write", path + "/x", "y" * 2000))
        plain.done(("link", path + "/x", "/z"))
        bag = Bag()
        root = tree_of(bag, "ann", plain)
        self.assertEqual(saved_paths(bag, root), ("/", *plain.paths()))
        page = [block for block in needs(bag, root, ("read", "/z")) if block not in needs(bag, root, ("look", "/z"))][5]
        poor = without(bag, [page])
        self.assertEqual(lost_paths(poor, root), (path + "/x", "/z"))
        again = mended(poor, "bob", root)
        self.assertEqual((len(saved_paths(poor, again)), tree_plain(poor, again).paths()), (199, plain.paths()[:198]))

    def test_names(self):
        bag, roots = some_tree(random.Random(25), 20)
        for odd in odd_values():
            if not (isinstance(odd, str) and odd in ("a", "ann", "seal", "make")):
                for place in (bag, Bag()):
                    before = state(place)
                    self.assertTrue(raises_with(raised(mended, place, odd, roots[-1]), BadName, odd))
                    self.assertTrue(raises_with(raised(mended_by, place, odd, roots[-1], "no roots"), BadName, odd))
                    self.assertEqual(state(place), before)


class MendingByElders(unittest.TestCase):

    def expected(self, bag, root, elders):
        """What is at each path of the mended tree, and which paths are given by which elder: as section 13 tells."""
        saved, lost = told_by_listing(bag, root)
        if lost == ("/",):
            for elder in elders:
                if "/" in told_by_listing(bag, elder)[0]:
                    return told_by_listing(bag, elder)[0], {}
            return {"/": None}, {}
        there, given = dict(saved), {}
        for path in lost:
            for number, elder in enumerate(elders):
                its = told_by_listing(bag, elder)[0]
                if path in its:
                    more = {other: its[other] for other in its if other == path or other.startswith(path + "/")}
                    if len(there) - 1 + len(more) <= 200:
                        there.update(more)
                        given.update({other: number for other in more})
                    break
        return there, given

    def holds(self, bag, root, elders):
        there, given = self.expected(bag, root, elders)
        lost = lost_paths(bag, root)
        told, new = added(lambda bag: mended_by(bag, "cy", root, elders), bag)
        if lost == ():
            self.assertEqual((told, new), (root, []))
            return {}
        if lost == ("/",) and told in elders:
            # The first elder in which / is saved, of which nothing is lost: it is told as it is.
            self.assertEqual((new, lost_paths(bag, told)), ([], ()))
        found = things(tree_plain(bag, told))
        self.assertEqual({path: thing and thing[0] for path, thing in found.items()}, there)
        self.assertEqual(lost_paths(bag, told), ())
        for path, thing in found.items():
            if thing is not None:
                # Links lead from given paths to those of the same elder, from saved ones to saved ones.
                self.assertEqual({given.get(link) for link in thing[1]}, {given.get(path)})
        return given

    def test_elder_roots_of_one_bag(self):
        chance = random.Random(31)
        given = 0
        for seed in range(80):
            bag, roots = grown_tree(random.Random(seed))
            blocks = tree_blocks(bag, roots[-1])
            gone = chance.sample(blocks, min(len(blocks), chance.choice((1, 2, 5))))
            if roots[-1] in gone and chance.random() < 0.7:
                gone.remove(roots[-1])
            elders = tuple(chance.sample(roots[-30:], min(len(roots[-30:]), chance.choice((0, 1, 3, 20)))))
            given += len(self.holds(without(bag, gone), roots[-1], elders))
        self.assertGreater(given, 50)

    def test_links_within_what_is_given(self):
        """Two lost paths, and one that is saved, of one file: only those that one elder gives are those of one file."""
        first = played((("make", "/a"), ("make", "/b"), ("write", "/s", "one"), ("link", "/s", "/a/x"), ("link", "/s", "/b/x"), ("link", "/s", "/b/y"), ("make", "/a/f")))[1]
        second = played((("make", "/b"), ("write", "/b/x", "two"), ("link", "/b/x", "/b/z")))[1]
        # Nothing but a list of the root, and the file at /s, is left of this tree.
        bag = Bag()
        root, one, two = [tree_of(bag, name, plain) for name, plain in (("ann", first), ("bob", first), ("dan", second))]
        kept = {*needs(bag, root, ("list", "/")), *needs(bag, root, ("read", "/s"))}
        poor = without(bag, [block for block in tree_blocks(bag, root) if block not in kept])
        self.assertEqual(lost_paths(poor, root), ("/a", "/b"))
        for elders, links in [((one,), ("/a/x", "/b/x", "/b/y")), ((two, one), ("/a/x",))]:
            told = tree_plain(poor, mended_by(poor, "cy", root, elders))
            self.assertEqual((told.links("/a/x"), told.links("/s"), told.answer(("list", "/a"))), (links, ("/s",), ("names", ("f", "x"))))
        self.assertEqual((told.links("/b/x"), told.answer(("read", "/b/z"))), (("/b/x", "/b/z"), ("text", "two")))
        self.holds(poor, root, (two, one))

    def test_two_hundred_entries(self):
        """A folder that is given comes whole, or not at all; what is lesser still finds room."""
        for many, is_given in ((99, True), (100, True), (101, True), (102, False), (150, False)):
            bag = Bag()
            old = played((("make", "/a"), *(("make", f"/a/{number}") for number in range(many)), ("write", "/b", "old")))[1]
            new = played((("write", "/a", "file"), ("write", "/b", "new"), ("make", "/f"), *(("make", f"/f/{number}") for number in range(97))))[1]
            elder, root = tree_of(bag, "ann", old), tree_of(bag, "bob", new)
            gone = {*needs(bag, root, ("read", "/a")), *needs(bag, root, ("read", "/b"))} - {*needs(bag, root, ("list", "/f")), *needs(bag, root, ("list", "/"))}
            poor = without(bag, gone)
            self.assertEqual((lost_paths(poor, root), len(saved_paths(poor, root))), (("/a", "/b"), 99))
            told = tree_plain(poor, mended_by(poor, "cy", root, (elder,)))
            is_both = 98 + 1 + many + 1 <= 200
            self.assertEqual(told.answer(("look", "/a")), ("folder", many) if is_given else ("no", "missing"))
            self.assertEqual(told.answer(("read", "/b")), ("text", "old") if is_both or not is_given else ("no", "missing"))
            self.holds(poor, root, (elder,))

    def test_the_root_is_lost(self):
        bag, roots = some_tree(random.Random(33))
        poor = without(bag, [roots[-1], roots[3]])
        page = without(poor, [block for block in tree_blocks(bag, roots[5]) if block not in tree_blocks(bag, roots[2])][1:2])
        for place in (poor, page, Bag()):
            for elders in ((), (roots[3],), (roots[3], roots[5], roots[2]), (roots[2],), (("zed", 7), roots[5])):
                self.holds(place.copy(), roots[-1], elders)
        self.assertEqual(tree_plain(poor, mended_by(poor, "cy", roots[-1], ())), PlainTree())

    def test_roots(self):
        bag, roots = some_tree(random.Random(34), 20)
        for odd in odd_values() + [roots, (roots[0], None), (roots[0], ("ann", True)), (("ann", -1),), (("Ann", 1),), tuple(roots[:1] * 21), [roots[0]], roots[0]]:
            if odd != ():
                before = sizes(bag)
                self.assertTrue(raises_with(raised(mended_by, bag, "cy", roots[-1], odd), BadRoots, odd), odd)
                self.assertEqual(sizes(bag), before)
        self.assertEqual(mended_by(elders=tuple(roots[:1] * 20), root=roots[-1], name="cy", bag=bag), roots[-1])


if __name__ == "__main__":
    unittest.main()
