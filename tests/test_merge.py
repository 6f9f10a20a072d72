import random
import unittest

from lyinghouse.errors import Full
from lyinghouse.merge import merged, unlike
from lyinghouse.plain import PlainTree, path_of, parts_of, played
from samples import raised, raises_with

NOTHING = "nothing"
FOLDER = "folder"


def told(tree):
    """What is told at each path: a folder, or ("file", text)."""
    found = {}
    for path in tree.paths():
        is_folder = tree.answer(("look", path))[0] == "folder"
        found[path] = FOLDER if is_folder else ("file", tree.answer(("read", path))[1])
    return found


def expected(base, one, other):
    """The rules of section 14, word by word: (what is at each path, clashes)."""
    old, mine, its = told(base), told(one), told(other)
    paths = sorted({*old, *mine, *its})
    by_rules, third = {}, []
    for path in paths:
        a, b, c = [tree.get(path, NOTHING) for tree in (mine, its, old)]
        if a == b:
            by_rules[path] = a
        elif c == a:
            by_rules[path] = b
        elif c == b:
            by_rules[path] = a
        else:
            third.append(path)
            files = [thing for thing in (a, b) if thing not in (FOLDER, NOTHING)]
            by_rules[path] = FOLDER if FOLDER in (a, b) else max(files)
    chosen = dict(by_rules)
    for path in paths:
        if any(other.startswith(path + "/") and by_rules[other] != NOTHING for other in paths):
            chosen[path] = FOLDER
    fourth = [path for path in paths if chosen[path] == FOLDER != by_rules[path]]
    there = {path: thing for path, thing in chosen.items() if thing != NOTHING}
    names = [path for path in there if path.count("/") == 1]
    folder = next(name for name in ["/aside"] + [f"/aside.{number}" for number in range(1, 300)] if name not in names)
    clashes, texts = [], []
    for path in sorted({*third, *fourth}):
        sides = [tree.get(path, NOTHING) for tree in (mine, its)]
        laid = sorted({thing[1] for thing in sides if thing not in (FOLDER, NOTHING) and thing != chosen[path]})
        places = tuple(f"{folder}/{len(texts) + number}" for number in range(len(laid)))
        texts += laid
        word = "texts" if FOLDER not in sides and NOTHING not in sides else "gone" if NOTHING in sides else "kinds"
        clashes.append((path, word, places))
    if texts:
        there[folder] = FOLDER
        there.update({f"{folder}/{number}": ("file", text) for number, text in enumerate(texts)})
    return there, tuple(clashes)


NAMES = ("a", "b", "aside", "aside.1")


def some_path(chance):
    return "/" + "/".join(chance.choice(NAMES) for _ in range(chance.choice((1, 1, 2, 2, 3))))


def changed(tree, chance, many):
    """The tree behind some deeds that come about often."""
    tree = tree.copy()
    for _ in range(many):
        path, new, text = some_path(chance), some_path(chance), chance.choice("xyz")
        deed = chance.choice((("make", path), ("write", path, text), ("write", path, text), ("remove", path), ("move", path, new), ("link", path, new)))
        tree.done(deed)
    return tree


class Merging(unittest.TestCase):

    def holds(self, base, one, other):
        """The rules, and all that is said for all trees."""
        before = [tree.text for tree in (base, one, other)]
        tree, clashes = merged(base, one, other)
        there, clashed = expected(base, one, other)
        self.assertEqual((told(tree), clashes), (there, clashed))
        self.assertEqual(merged(base, other, one), (tree, clashes))
        self.assertTrue(all(tree.links(path) == (path,) for path, thing in there.items() if thing != FOLDER))
        places = {path: its for path, _, its in clashes}
        for side in (one, other):
            self.assertEqual(merged(base, side, side)[1], ())
            self.assertEqual(unlike(side, merged(base, side, side)[0]), ())
            self.assertEqual(merged(base, side, base)[1], ())
            self.assertEqual(unlike(side, merged(base, side, base)[0]), ())
            for path, thing in told(side).items():
                if thing != FOLDER and told(base).get(path) != thing:
                    stands = [path, *places.get(path, ())]
                    self.assertIn(thing, [there.get(place) for place in stands])
        self.assertEqual([tree.text for tree in (base, one, other)], before)
        return tree, clashes

    def test_some_trees(self):
        words = set()
        for seed in range(700):
            chance = random.Random(seed)
            base = changed(PlainTree(), chance, chance.choice((0, 4, 12)))
            one, other = changed(base, chance, chance.choice((1, 5, 12))), changed(base, chance, chance.choice((1, 5, 12)))
            _, clashes = self.holds(base, one, other)
            words |= {(word, len(places)) for _, word, places in clashes}
            self.holds(changed(PlainTree(), chance, 9), one, other)
        self.assertEqual(words, {("texts", 1), ("gone", 0), ("kinds", 1)})

    def test_unlike(self):
        for seed in range(200):
            chance = random.Random(seed)
            one, other = [changed(PlainTree(), chance, 10) for _ in "12"]
            mine, its = told(one), told(other)
            paths = tuple(sorted(path for path in {*mine, *its} if mine.get(path) != its.get(path)))
            self.assertEqual((unlike(one, other), unlike(other, one), unlike(one, one.copy())), (paths, paths, ()))
        linked = played((("write", "/a", "x"), ("link", "/a", "/b")))[1]
        self.assertEqual(unlike(one=linked, other=played((("write", "/a", "x"), ("write", "/b", "x")))[1]), ())

    def test_a_folder_where_a_file_was_chosen(self):
        """One has made a file of the folder, the other one has put something into it."""
        base = played((("make", "/a"),))[1]
        one = played((("write", "/a", "file"),))[1]
        other = played((("make", "/a"), ("write", "/a/x", "new")))[1]
        tree, clashes = self.holds(base, one, other)
        self.assertEqual(clashes, (("/a", "kinds", ("/aside/0",)),))
        self.assertEqual(tree.paths(), ("/a", "/a/x", "/aside", "/aside/0"))

    def test_two_texts_of_one_path_by_their_paths(self):
        base = PlainTree()
        one = played((("make", "/b"), ("write", "/b/x", "1"), ("write", "/c", "3"), ("write", "/aside", "here"), ("make", "/aside.1")))[1]
        other = played((("write", "/b", "2"), ("write", "/c", "4")))[1]
        tree, clashes = self.holds(base, one, other)
        self.assertEqual(clashes, (("/b", "kinds", ("/aside.2/0",)), ("/c", "texts", ("/aside.2/1",))))
        self.assertEqual([tree.answer(("read", path))[1] for path in ("/aside.2/0", "/aside.2/1", "/c")], ["2", "3", "4"])

    def test_more_than_ten_texts(self):
        one, other = [played(tuple(("write", f"/{number:02d}", text) for number in range(12)))[1] for text in "xy"]
        tree, clashes = self.holds(PlainTree(), one, other)
        self.assertEqual([row[2] for row in clashes], [(f"/aside/{number}",) for number in range(12)])
        self.assertEqual(tree.answer(("look", "/aside")), ("folder", 12))

    def test_full(self):
        for many, extra, number in ((98, 0, None), (99, 1, None), (99, 2, 201), (100, 0, 201), (199, 1, 400)):
            one = played((*(("write", f"/{name}", "x") for name in range(many)), *(("make", f"/f{name}") for name in range(extra))))[1]
            other = played(tuple(("write", f"/{name}", "y") for name in range(many)))[1]
            error = raised(merged, PlainTree(), one, other)
            if number is None:
                self.assertIsNone(error)
                self.assertEqual(len(merged(PlainTree(), one, other)[0].paths()), 2 * many + 1 + extra)
            else:
                self.assertTrue(raises_with(error, Full, number))
        half = [played(tuple(("make", f"/{side}{name}") for name in range(100)))[1] for side in "ab"]
        self.assertEqual(len(merged(PlainTree(), *half)[0].paths()), 200)
        half[0] = played(tuple(("make", f"/a{name}") for name in range(101)))[1]
        self.assertTrue(raises_with(raised(merged, base=PlainTree(), one=half[0], other=half[1]), Full, 201))

    def test_deep_trees(self):
        deeds = tuple(("make", path_of(("a",) * many)) for many in range(1, 200))
        deep = path_of(("a",) * 200)
        base = played((*deeds, ("write", deep, "old")))[1]
        other = PlainTree()
        one = played((*deeds, ("write", deep, "new")))[1]
        tree, clashes = merged(base, one, other)
        self.assertEqual((unlike(one, tree), len(clashes)), ((), 200))
        self.assertEqual({row[1:] for row in clashes}, {("gone", ())})
        self.assertEqual(len(parts_of(clashes[-1][0])), 200)


if __name__ == "__main__":
    unittest.main()
