import unittest

from lyinghouse.errors import BadDeed, BadDeeds, BadPath, NoFile
from lyinghouse.plain import PlainTree, changes, is_deed, is_path, parts_of, path_of, played
from samples import nested, odd_values, raised, raises_with

GOOD_PATHS = [
    "/", "/a", "/a/b.txt", "/0", "/_", "/...", "/.a", "/a.", "/a..b", "/..a", "/abcdefghijkl", "/z9._/z",
    "/" + "/".join(["a"] * 200), ("/" + "abcdefghijkl") * 200,
]
BAD_PATHS = [
    "", "a", "a/b", "//", "/a/", "/a//b", "//a", "/.", "/..", "/a/.", "/a/../b", "/A", "/a b", "/a-b", "/a\n", "/a\tb",
    "\n/a", " /a", "/a ", "/abcdefghijklm", "/" + "/".join(["a"] * 201), "/" * 200000, "/a" * 100000, ".", "..",
]
CHANGING = [
    ("make", "/a"), ("write", "/a", "x"), ("put", "/a", 0, "x"), ("cut", "/a", 3), ("link", "/a", "/b"),
    ("move", "/a", "/b"), ("remove", "/a"),
]
ASKING = [("read", "/a"), ("part", "/a", 1, 2), ("list", "/a"), ("look", "/a")]
# What stands at the places of each deed: p a path, n a number, t a text.
KINDS = {
    "make": "p", "write": "pt", "put": "pnt", "cut": "pn", "link": "pp", "move": "pp", "remove": "p", "read": "p",
    "part": "pnn", "list": "p", "look": "p",
}


def is_part(kind, value):
    if kind == "p":
        return type(value) is str and value in GOOD_PATHS
    if kind == "t":
        return type(value) is str and len(value) <= 2000 and "\t" not in value
    return type(value) is int and 0 <= value <= 2000


class Paths(unittest.TestCase):

    def test_is_path(self):
        for path in GOOD_PATHS:
            self.assertIs(is_path(path), True, path[:40])
        for path in BAD_PATHS:
            self.assertIs(is_path(path), False, path[:40])
        for odd in odd_values():
            self.assertIs(is_path(odd), isinstance(odd, str) and odd == "/")

    def test_each_sign_in_a_name(self):
        allowed = "abcdefghijklmnopqrstuvwxyz0123456789._"
        for number in range(32, 127):
            sign = chr(number)
            self.assertIs(is_path("/x" + sign), sign in allowed, sign)
            self.assertIs(is_path("/x" + sign + "y"), sign in allowed + "/", sign)

    def test_parts(self):
        for path, parts in [("/", ()), ("/a", ("a",)), ("/a/b.c/_", ("a", "b.c", "_")), (GOOD_PATHS[-2], ("a",) * 200)]:
            self.assertEqual(parts_of(path), parts)
            self.assertEqual(path_of(parts), path)
        for path in BAD_PATHS + [odd for odd in odd_values() if odd != "/"]:
            self.assertTrue(raises_with(raised(parts_of, path), BadPath, path))

    def test_path_of(self):
        for parts in [
            ("",), (".",), ("..",), ("a", ".."), ("A",), ("a/b",), ("/",), ("/a",), ("a" * 13,), ("a",) * 201, ("a", 1), ["a"],
            [], "a", "", None, ("a", None), ("a", True), ("a", ["b"]), (("a",),), {"a": 1}, {}, ("a\n",), PlainTree(), nested(60),
        ]:
            self.assertTrue(raises_with(raised(path_of, parts), BadPath, parts))
        for odd in odd_values():
            error = raised(path_of, ("a", odd))
            fits = isinstance(odd, str) and odd in ("a", "ann", "seal", "make")
            self.assertTrue(error is None if fits else raises_with(error, BadPath, ("a", odd)))
        self.assertEqual(path_of(("a" * 12, "...")), "/aaaaaaaaaaaa/...")


class Deeds(unittest.TestCase):

    def test_all_forms(self):
        for deed in CHANGING:
            self.assertIs(is_deed(deed), True, deed)
            self.assertIs(changes(deed), True, deed)
        for deed in ASKING:
            self.assertIs(is_deed(deed), True, deed)
            self.assertIs(changes(deed), False, deed)

    def test_too_few_and_too_many_parts(self):
        for deed in CHANGING + ASKING:
            for other in (deed[:-1], deed + ("/a",), deed + (1,), deed + (None,), list(deed), (deed,), deed[::-1], deed[1:]):
                self.assertIs(is_deed(other), False, other)
                self.assertTrue(raises_with(raised(changes, other), BadDeed, other))

    def test_any_value_at_any_place(self):
        fitting = {"p": ["/a", "/", GOOD_PATHS[-1]], "t": ["", "\n" * 2000], "n": [0, 2000]}
        for word, kinds in KINDS.items():
            deed = (word, *[fitting[kind][0] for kind in kinds])
            for place, kind in enumerate(kinds, 1):
                for part in fitting[kind] + odd_values() + BAD_PATHS[:20]:
                    other = (*deed[:place], part, *deed[place + 1:])
                    self.assertIs(is_deed(other), is_part(kind, part), other[:3])
            for odd in odd_values():
                self.assertIs(is_deed((odd, *deed[1:])), isinstance(odd, str) and odd == "make" and kinds == "p")
        for odd in odd_values():
            self.assertIs(is_deed(odd), False)
            self.assertTrue(raises_with(raised(changes, odd), BadDeed, odd))

    def test_limits(self):
        for text, fits in [("x" * 2000, True), ("x" * 2001, False), ("\n" * 2000, True), ("\n" * 2001, False), ("~ \n", True),
                           ("\t", False), ("a\tb", False)]:
            self.assertIs(is_deed(("write", "/a", text)), fits)
            self.assertIs(is_deed(("put", "/a", 0, text)), fits)
        for number, fits in [(0, True), (2000, True), (2001, False), (-1, False), (True, False), (False, False), ("1", False)]:
            for deed in [("cut", "/a", number), ("put", "/a", number, ""), ("part", "/a", number, 0), ("part", "/a", 0, number)]:
                self.assertIs(is_deed(deed), fits)
        for word in ("Make", "make ", "", "done", "puts", "no"):
            self.assertIs(is_deed((word, "/a")), False)


def grown(*deeds):
    """A tree in which these deeds were done, none of them refused."""
    answers, tree = played(deeds)
    assert all(answer[0] != "no" for answer in answers), answers
    return tree


class Answers(unittest.TestCase):

    def setUp(self):
        self.tree = grown(("make", "/d"), ("make", "/d/e"), ("write", "/d/f", "one\ntwo"), ("link", "/d/f", "/g"),
                          ("write", "/h", ""), ("make", "/k"))

    def answers(self, *rows):
        """Each deed is answered so, by answer and by done, and leaves the tree as it is."""
        for deed, answer in rows:
            before, copy = self.tree.text, self.tree.copy()
            self.assertEqual(self.tree.answer(deed), answer, deed)
            self.assertEqual(self.tree.text, before)
            self.assertEqual(copy.done(deed), answer, deed)
            if answer[0] == "no" or not changes(deed):
                self.assertEqual(copy.text, before)
                self.assertEqual(copy, self.tree)

    def refused(self, *rows):
        self.answers(*[(deed, ("no", word)) for deed, word in rows])

    def test_what_asks(self):
        self.answers(
            (("read", "/d/f"), ("text", "one\ntwo")), (("read", "/g"), ("text", "one\ntwo")), (("read", "/h"), ("text", "")),
            (("part", "/g", 2, 3), ("text", "e\nt")), (("part", "/g", 4, 2000), ("text", "two")), (("part", "/g", 7, 1), ("text", "")),
            (("part", "/g", 8, 1), ("text", "")), (("part", "/g", 2000, 2000), ("text", "")), (("part", "/g", 0, 0), ("text", "")),
            (("list", "/"), ("names", ("d", "g", "h", "k"))), (("list", "/d"), ("names", ("e", "f"))), (("list", "/k"), ("names", ())),
            (("look", "/"), ("folder", 4)), (("look", "/d"), ("folder", 2)), (("look", "/k"), ("folder", 0)),
            (("look", "/g"), ("file", 7, 2)), (("look", "/d/f"), ("file", 7, 2)), (("look", "/h"), ("file", 0, 1)),
        )
        self.assertEqual(self.tree.answer(("look", "/"))[1:], (4,))
        self.assertIs(type(self.tree.answer(("list", "/"))[1]), tuple)

    def test_what_asks_and_is_refused(self):
        for deed in [("read",), ("part", 0, 1), ("cut", 1), ("put", 0, "")]:
            word, rest = deed[0], deed[1:]
            self.refused(((word, "/", *rest), "folder"), ((word, "/d", *rest), "folder"), ((word, "/x", *rest), "missing"),
                         ((word, "/d/x", *rest), "missing"), ((word, "/g/x", *rest), "file"), ((word, "/x/y", *rest), "missing"),
                         ((word, "/g/x/y", *rest), "file"), ((word, "/d/f/e/x", *rest), "file"))
        self.refused((("list", "/g"), "file"), (("list", "/x"), "missing"), (("list", "/g/x"), "file"), (("list", "/d/x/y"), "missing"),
                     (("look", "/x"), "missing"), (("look", "/g/x"), "file"), (("look", "/d/e/x"), "missing"))

    def test_make(self):
        self.refused((("make", "/"), "root"), (("make", "/x/y"), "missing"), (("make", "/g/y"), "file"), (("make", "/g/y/z"), "file"),
                     (("make", "/d"), "taken"), (("make", "/g"), "taken"), (("make", "/d/f"), "taken"), (("make", "/x/y/z"), "missing"))
        self.assertEqual(self.tree.done(("make", "/d/e/x")), ("done",))
        self.assertEqual(self.tree.done(("look", "/d/e/x")), ("folder", 0))
        self.assertEqual(self.tree.done(("list", "/d/e")), ("names", ("x",)))

    def test_write(self):
        self.refused((("write", "/", ""), "folder"), (("write", "/d", ""), "folder"), (("write", "/x/y", ""), "missing"),
                     (("write", "/g/y", ""), "file"), (("write", "/d/e", ""), "folder"), (("write", "/g/y/z", ""), "file"))
        self.assertEqual(self.tree.done(("write", "/g", "new")), ("done",))
        self.assertEqual(self.tree.done(("read", "/d/f")), ("text", "new"))
        self.assertEqual(self.tree.done(("write", "/d/e/x", "y" * 2000)), ("done",))
        self.assertEqual(self.tree.done(("look", "/d/e/x")), ("file", 2000, 1))

    def test_put(self):
        self.refused((("put", "/g", 8, ""), "beyond"), (("put", "/g", 8, "y" * 2000), "beyond"), (("put", "/h", 1, "x"), "beyond"),
                     (("put", "/g", 1, "y" * 2000), "long"), (("put", "/g", 7, "y" * 1994), "long"), (("put", "/d", 2000, "y"), "folder"))
        for at, text, behind in [(0, "ONE", "ONE\ntwo"), (3, "", "ONE\ntwo"), (7, "!", "ONE\ntwo!"), (6, "!?#", "ONE\ntw!?#"),
                                 (0, "y" * 2000, "y" * 2000), (2000, "", "y" * 2000), (1999, "z", "y" * 1999 + "z")]:
            self.assertEqual(self.tree.done(("put", "/g", at, text)), ("done",))
            self.assertEqual(self.tree.done(("read", "/d/f")), ("text", behind))
        self.refused((("put", "/g", 2000, "y"), "long"), (("put", "/g", 1999, "yz"), "long"))
        self.assertEqual(self.tree.done(("cut", "/g", 7)), ("done",))
        self.assertEqual(self.tree.done(("put", "/g", 7, "y" * 1993)), ("done",))
        self.assertEqual(self.tree.done(("look", "/g")), ("file", 2000, 2))

    def test_cut(self):
        for length, behind in [(2000, "one\ntwo"), (8, "one\ntwo"), (7, "one\ntwo"), (5, "one\nt"), (0, ""), (3, "")]:
            self.assertEqual(self.tree.done(("cut", "/d/f", length)), ("done",))
            self.assertEqual(self.tree.done(("read", "/g")), ("text", behind))

    def test_link(self):
        self.refused((("link", "/x", "/"), "missing"), (("link", "/g/x", "/"), "file"), (("link", "/d", "/"), "folder"),
                     (("link", "/", "/"), "folder"), (("link", "/g", "/"), "root"), (("link", "/g", "/x/y"), "missing"),
                     (("link", "/g", "/h/y"), "file"), (("link", "/g", "/g/y"), "file"), (("link", "/g", "/h"), "taken"),
                     (("link", "/g", "/d"), "taken"), (("link", "/g", "/g"), "taken"), (("link", "/d/f", "/g"), "taken"))
        self.assertEqual(self.tree.done(("link", "/g", "/d/e/x")), ("done",))
        self.assertEqual(self.tree.done(("look", "/d/f")), ("file", 7, 3))
        self.assertEqual(self.tree.links("/g"), ("/d/e/x", "/d/f", "/g"))
        self.tree.done(("cut", "/d/e/x", 1))
        self.assertEqual(self.tree.done(("read", "/g")), ("text", "o"))

    def test_move_is_refused(self):
        self.refused((("move", "/", "/"), "root"), (("move", "/", "/x"), "root"), (("move", "/x", "/"), "root"), (("move", "/d", "/"), "root"),
                     (("move", "/x", "/y"), "missing"), (("move", "/g/x", "/y"), "file"), (("move", "/x", "/x/y"), "missing"),
                     (("move", "/d", "/d/y"), "inside"), (("move", "/d", "/d/e/y"), "inside"), (("move", "/d", "/d/x/y"), "inside"),
                     (("move", "/d", "/d/f"), "inside"), (("move", "/d", "/d/f/y"), "inside"), (("move", "/g", "/g/y"), "file"),
                     (("move", "/d", "/x/y"), "missing"), (("move", "/d", "/g/y"), "file"), (("move", "/d", "/d"), "taken"),
                     (("move", "/g", "/g"), "taken"), (("move", "/d", "/g"), "taken"), (("move", "/g", "/d"), "taken"),
                     (("move", "/g", "/d/f"), "taken"), (("move", "/h", "/h/y/z"), "file"))

    def test_move(self):
        self.assertEqual(self.tree.done(("move", "/d", "/dd")), ("done",))
        self.assertEqual(self.tree.paths(), ("/dd", "/dd/e", "/dd/f", "/g", "/h", "/k"))
        self.assertEqual(self.tree.done(("move", "/dd", "/k/d")), ("done",))
        self.assertEqual(self.tree.paths(), ("/g", "/h", "/k", "/k/d", "/k/d/e", "/k/d/f"))
        self.assertEqual(self.tree.done(("move", "/k/d/f", "/f")), ("done",))
        self.assertEqual(self.tree.links("/g"), ("/f", "/g"))
        self.assertEqual(self.tree.done(("look", "/k/d")), ("folder", 1))
        self.assertEqual(self.tree.done(("read", "/f")), ("text", "one\ntwo"))

    def test_remove(self):
        self.refused((("remove", "/"), "root"), (("remove", "/x"), "missing"), (("remove", "/g/x"), "file"), (("remove", "/d"), "used"))
        for deed in [("remove", "/g"), ("remove", "/d/e"), ("remove", "/h"), ("remove", "/k")]:
            self.assertEqual(self.tree.done(deed), ("done",))
        self.assertEqual(self.tree.paths(), ("/d", "/d/f"))
        self.assertEqual(self.tree.done(("look", "/d/f")), ("file", 7, 1))
        for deed in [("remove", "/d/f"), ("remove", "/d")]:
            self.assertEqual(self.tree.done(deed), ("done",))
        self.assertEqual(self.tree, PlainTree())
        # What comes to the path of a file that is gone is another one.
        self.tree.done(("write", "/g", "z"))
        self.assertEqual(self.tree.done(("look", "/g")), ("file", 1, 1))


class FullTrees(unittest.TestCase):

    def setUp(self):
        self.tree = grown(("make", "/d"), ("write", "/f", "x"), *[("make", f"/d/{number}") for number in range(198)])

    def test_200_entries(self):
        tree = self.tree
        self.assertEqual(len(tree.paths()), 200)
        before = tree.text
        for deed, word in [
            (("make", "/x"), "full"), (("write", "/x", ""), "full"), (("link", "/f", "/x"), "full"), (("make", "/d"), "taken"),
            (("make", "/x/y"), "missing"), (("write", "/d", ""), "folder"), (("link", "/f", "/d"), "taken"), (("make", "/"), "root"),
            (("link", "/x", "/y"), "missing"), (("link", "/d", "/y"), "folder"), (("write", "/f/x", ""), "file"),
            (("write", "/", ""), "folder"), (("link", "/f", "/"), "root"), (("link", "/f", "/f/x"), "file"),
        ]:
            self.assertEqual(tree.done(deed), ("no", word), deed)
            self.assertEqual(tree.text, before)
        for deed in [("write", "/f", "y"), ("move", "/f", "/g"), ("put", "/g", 1, "z"), ("remove", "/d/7"), ("make", "/x")]:
            self.assertEqual(tree.done(deed), ("done",), deed)
        self.assertEqual(tree.done(("write", "/y", "")), ("no", "full"))

    def test_199_entries(self):
        for deed in [("make", "/x"), ("write", "/x", ""), ("link", "/f", "/x")]:
            tree = self.tree.copy()
            tree.done(("remove", "/d/197"))
            self.assertEqual(tree.done(deed), ("done",))
            self.assertEqual(len(tree.paths()), 200)

    def test_200_folders_in_one_another(self):
        name = "abcdefghijkl"
        tree = grown(*[("make", f"/{name}" * many) for many in range(1, 201)])
        self.assertEqual(tree.paths(), tuple(f"/{name}" * many for many in range(1, 201)))
        self.assertEqual(tree.done(("look", f"/{name}" * 200)), ("folder", 0))
        self.assertEqual(tree.done(("look", f"/{name}" * 199)), ("folder", 1))
        self.assertEqual(tree.done(("remove", f"/{name}" * 199)), ("no", "used"))
        self.assertEqual(tree.done(("move", f"/{name}", f"/{name}" * 200)), ("no", "inside"))
        self.assertEqual(tree.done(("move", f"/{name}" * 2, "/a")), ("done",))
        self.assertEqual(tree.done(("look", "/a" + f"/{name}" * 198)), ("folder", 0))


class Trees(unittest.TestCase):

    def test_bad_deeds(self):
        tree = grown(("make", "/a"))
        before = tree.text
        for odd in odd_values() + [("make", "/A"), ("cut", "/a", True), ("put", "/a", 0), ["make", "/b"], ("write", "/b", "\t")]:
            self.assertTrue(raises_with(raised(tree.done, odd), BadDeed, odd))
            self.assertTrue(raises_with(raised(tree.answer, odd), BadDeed, odd))
            self.assertEqual(tree.text, before)

    def test_paths_ascend(self):
        tree = grown(("make", "/a"), ("write", "/a/z", ""), ("make", "/a.b"), ("make", "/a0"), ("make", "/a/b"), ("make", "/a_"),
                     ("make", "/a.b/c"), ("write", "/0", ""), ("make", "/aa"))
        paths = ("/0", "/a", "/a.b", "/a.b/c", "/a/b", "/a/z", "/a0", "/a_", "/aa")
        self.assertEqual(tree.paths(), paths)
        self.assertEqual(tree.done(("list", "/")), ("names", ("0", "a", "a.b", "a0", "a_", "aa")))
        self.assertEqual(PlainTree().paths(), ())

    def test_links(self):
        tree = grown(("make", "/a"), ("write", "/a/x", "t"), ("link", "/a/x", "/0"), ("write", "/y", "t"), ("link", "/0", "/a.b"))
        for path in ("/0", "/a.b", "/a/x"):
            self.assertEqual(tree.links(path), ("/0", "/a.b", "/a/x"))
        self.assertEqual(tree.links("/y"), ("/y",))
        for path in ["/", "/a", "/z", "/a/z", "/y/z", "/a/"] + BAD_PATHS + odd_values():
            self.assertTrue(raises_with(raised(tree.links, path), NoFile, path))

    def test_equal(self):
        one, other = grown(("write", "/a", "x"), ("link", "/a", "/b")), grown(("write", "/a", "x"), ("write", "/b", "x"))
        self.assertTrue(one != other and not one == other)
        third = grown(("write", "/b", "y"), ("link", "/b", "/a"), ("make", "/c"), ("remove", "/c"), ("write", "/a", "x"))
        self.assertTrue(one == third and not one != third)
        for odd in odd_values() + [one.text, (one,), [one]]:
            if not isinstance(odd, PlainTree):
                self.assertFalse(one == odd or odd == one)
                self.assertTrue(one != odd and odd != one)
        self.assertFalse(PlainTree() == "tree 0")
        self.assertTrue(PlainTree() == PlainTree())
        self.assertFalse(PlainTree() == one)

    def test_copy(self):
        one = grown(("make", "/a"), ("write", "/a/x", "t"))
        text = one.text
        other = one.copy()
        self.assertEqual(other, one)
        for deed in [("write", "/a/x", "other"), ("make", "/a/y"), ("link", "/a/x", "/z"), ("remove", "/a/x"), ("write", "/w", "")]:
            self.assertEqual(other.done(deed), ("done",))
            self.assertEqual(one.text, text)
        changed = other.text
        for deed in [("cut", "/a/x", 0), ("make", "/q"), ("write", "/q/w", "n"), ("move", "/a", "/b")]:
            self.assertEqual(one.done(deed), ("done",))
            self.assertEqual(other.text, changed)
        self.assertEqual(one.paths(), ("/b", "/b/x", "/q", "/q/w"))
        self.assertEqual(one.done(("look", "/b/x")), ("file", 0, 1))

    def test_text_is_no_method_and_stays(self):
        tree = PlainTree()
        self.assertEqual(tree.text, "tree 0")
        self.assertEqual(tree.text, tree.text)
        tree.done(("write", "/a", "x\n"))
        self.assertEqual(tree.text, "tree 1\nfile /a 0\ntext 0 2\nx\n")


class Played(unittest.TestCase):

    def test_answers_and_tree(self):
        self.assertEqual(played(()), ((), PlainTree()))
        answers, tree = played((("make", "/a"), ("make", "/a"), ("look", "/a"), ("write", "/a/b", "x")))
        self.assertEqual(answers, (("done",), ("no", "taken"), ("folder", 0), ("done",)))
        self.assertEqual(tree.paths(), ("/a", "/a/b"))
        self.assertIs(type(played(())), tuple)

    def test_each_call_begins_anew(self):
        one, other = played((("make", "/a"),))[1], played((("make", "/a"),))[1]
        one.done(("make", "/b"))
        self.assertEqual(other.paths(), ("/a",))

    def test_bad_deeds(self):
        good = ("make", "/a")
        for odd in odd_values():
            if odd != ():
                self.assertTrue(raises_with(raised(played, odd), BadDeeds, odd))
            deeds = (good, odd)
            self.assertTrue(raises_with(raised(played, deeds), BadDeeds, deeds))
        for deeds in [[good], good, (good, ("make", "/A")), (good, ["make", "/b"]), {good: 1}]:
            self.assertTrue(raises_with(raised(played, deeds), BadDeeds, deeds))


if __name__ == "__main__":
    unittest.main()
