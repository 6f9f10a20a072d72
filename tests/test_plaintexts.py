import random
import unittest

from lyinghouse.errors import BadTree
from lyinghouse.plain import PlainTree, played
from lyinghouse.plaintexts import read_tree, tree_text
from samples import odd_values, raised, raises_with


def lines(*rows):
    return "\n".join(rows)


class TreeText(unittest.TestCase):

    def test_lines(self):
        self.assertEqual(tree_text(PlainTree()), "tree 0")
        tree = played((("make", "/b"), ("write", "/b/y", "two\n"), ("write", "/a", ""), ("link", "/b/y", "/b.c"), ("link", "/a", "/z")))[1]
        self.assertEqual(tree_text(tree), lines(
            "tree 5", "file /a 0", "folder /b", "file /b.c 1", "file /b/y 1", "file /z 0", "text 0 1", "", "text 1 2", "two", ""))
        self.assertEqual(tree.text, tree_text(tree))

    def test_texts_that_look_like_lines(self):
        tree = played((("write", "/a", "text 1 1\nfile /b 0"), ("write", "/b", "tree 0")))[1]
        self.assertEqual(tree_text(tree), lines(
            "tree 2", "file /a 0", "file /b 1", "text 0 2", "text 1 1", "file /b 0", "text 1 1", "tree 0"))
        self.assertEqual(read_tree(tree_text(tree)), tree)


class ReadTree(unittest.TestCase):

    def bad(self, text, number):
        self.assertTrue(raises_with(raised(read_tree, text), BadTree, number), text[:80])

    def good(self, text):
        self.assertEqual(tree_text(read_tree(text)), text)

    def test_no_strings(self):
        for odd in odd_values():
            if not isinstance(odd, str):
                self.assertTrue(raises_with(raised(read_tree, odd), BadTree, 0))

    def test_first_line(self):
        self.good("tree 0")
        for line in ["", "tree", "tree ", "tree  0", "tree 0 ", " tree 0", "Tree 0", "tree 00", "tree 01", "tree -1", "tree +1",
                     "tree 201", "tree 0200", "tree 1000000000", "tree " + "9" * 5000, "tree x", "tree 1 1", "tree\t0", "tree_0",
                     "trees 0", "folder /a", "tree 0.", "tree 1_0", "0"]:
            self.bad(line, 1)
            self.bad(line + "\nfolder /a", 1)

    def test_more_lines_than_told(self):
        self.bad("tree 0\n", 2)
        self.bad("tree 0\nfolder /a", 2)
        self.bad("tree 1\nfolder /a\n", 3)
        self.bad("tree 1\nfile /a 0\ntext 0 1\nx\n", 5)
        self.bad("tree 1\nfile /a 0\ntext 0 1\nx\ntext 1 1\n", 5)

    def test_lines_are_lacking(self):
        self.bad("tree 1", 2)
        self.bad("tree 200", 2)
        self.bad("tree 2\nfolder /a", 3)
        self.bad("tree 1\nfile /a 0", 3)
        self.bad("tree 1\nfile /a 0\ntext 0 1", 4)
        self.bad("tree 1\nfile /a 0\ntext 0 3\n\n", 6)
        self.bad("tree 2\nfile /a 0\nfile /b 1\ntext 0 1\n", 6)

    def test_entries(self):
        self.good(lines("tree 2", "folder /a", "folder /a/b"))
        for line in ["", "folder", "folder ", "folder /", "folder a", "folder  /a", "folder /a ", " folder /a", "folder /a 0", "folder /A",
                     "folder /a/", "folder /a/b", "file /a", "file /a 1", "file /a -1", "file /a 00", "file /a  0", "file /a 0 ",
                     "file / 0", "file /a 0 0", "file a 0", "file /a/b 0", "file /a x", "Folder /a", "text 0 1", "tree 1", "files /a 0",
                     "file /abcdefghijklm 0", "folder /..", "file /a 1000000000", "file 0 /a", "folder\t/a"]:
            self.bad(lines("tree 1", line), 2)
            self.bad(lines("tree 3", line, "folder /z"), 2)

    def test_entries_behind_others(self):
        ahead = ["tree 9", "folder /b", "file /b/f 0", "folder /d", "file /e 1"]
        for line in ["folder /e", "file /e 1", "file /e 2", "folder /a", "folder /b", "folder /b/g", "folder /d/g", "file /e/x 0",
                     "folder /e/x", "file /f 3", "file /f 4", "file /f", "folder /f/x", "file /f/x 2", "folder /f 0", "file /d 0", "file /f 02",
                     "", "text 0 1", "folder /"]:
            self.bad(lines(*ahead, line), 6)
        for line in ["folder /f", "file /f 0", "file /f 1", "file /f 2", "folder /e.", "folder /e.f", "file /zz 2"]:
            self.bad(lines(*ahead, line), 7)

    def test_a_path_is_held_against_those_ahead_alone(self):
        # No path can come behind this one, but that is told of the next line.
        self.bad(lines("tree 2", "file /zzzzzzzzzzzz 0"), 3)
        self.bad(lines("tree 2", "file /zzzzzzzzzzzz 0", "text 0 1", "x"), 3)
        self.bad(lines("tree 2", "file /zzzzzzzzzzzz 0", "folder /zzzzzzzzzzzz/a"), 3)

    def test_heads_of_texts(self):
        ahead = ["tree 3", "file /a 0", "file /b 1", "file /c 0"]
        self.good(lines(*ahead, "text 0 1", "x", "text 1 2", "y", ""))
        for line in ["", "text", "text 0", "text 1 1", "text 0 0", "text 0 01", "text 0 -1", "text 00 1", "text 0 2002", "text 0 x", "text 0 1 1",
                     "text  0 1", "text 0 1 ", "Text 0 1", "folder /d", "text 0 1000000000", "text 0 10000", "text 2 1", "text -0 1", "text 0\t1"]:
            self.bad(lines(*ahead, line), 5)
            self.bad(lines(*ahead, line, "x", "text 1 1", "y"), 5)
        for line in ["", "text 0 1", "text 2 1", "text 1 0", "text 1 2002", "text 01 1", "y"]:
            self.bad(lines(*ahead, "text 0 2", "x", "text 1 1", line), 8)
        self.bad(lines(*ahead, "text 0 1", "x", "text 1 1"), 8)

    def test_lines_of_texts(self):
        ahead = ["tree 1", "file /a 0"]
        self.good(lines(*ahead, "text 0 2001", *[""] * 2001))
        self.good(lines(*ahead, "text 0 1", "x" * 2000))
        self.good(lines(*ahead, "text 0 2", "x" * 1000, "y" * 999))
        self.good(lines(*ahead, "text 0 1001", "x" * 1000, *[""] * 1000))
        self.good(lines(*ahead, "text 0 2000", *[""] * 1999, "x"))
        self.bad(lines(*ahead, "text 0 1", "x" * 2001), 4)
        self.bad(lines(*ahead, "text 0 1", "x" * 150000), 4)
        self.bad(lines(*ahead, "text 0 2", "x" * 1000, "y" * 1000), 5)
        self.bad(lines(*ahead, "text 0 2", "x" * 2000, ""), 4)
        self.bad(lines(*ahead, "text 0 2001", "x"), 4)
        self.bad(lines(*ahead, "text 0 2001", *[""] * 700, "x"), 704)
        self.bad(lines(*ahead, "text 0 2001", *[""] * 2000), 2004)
        self.bad(lines(*ahead, "text 0 2001", *[""] * 2002), 2005)
        self.bad(lines(*ahead, "text 0 2000", "x", "y"), 5)
        self.bad(lines(*ahead, "text 0 1001", "x" * 1000, *[""] * 500, "y"), 505)
        self.bad(lines(*ahead, "text 0 2", "a\tb", "c"), 4)
        self.bad(lines(*ahead, "text 0 2", "a", "\t"), 5)

    def test_many_entries(self):
        rows = [f"folder /{number}" for number in range(100, 300)]
        self.good(lines("tree 200", *rows))
        self.bad(lines("tree 200", *rows, "folder /300"), 202)
        self.bad(lines("tree 200", *rows[:-1]), 201)
        self.bad(lines("tree 201", *rows, "folder /300"), 1)
        rows = [f"file /{number} {number - 100}" for number in range(100, 300)]
        texts = [line for number in range(200) for line in (f"text {number} 2", "x" * 1999, "")]
        self.good(lines("tree 200", *rows, *texts))
        self.bad(lines("tree 200", *rows, *texts[:-1]), 801)
        self.bad(lines("tree 200", *rows, *texts[:-1], "y"), 801)

    def test_deep_paths(self):
        rows = ["folder " + "/abcdefghijkl" * many for many in range(1, 201)]
        self.good(lines("tree 200", *rows))
        self.bad(lines("tree 200", *rows[:150], *rows[151:]), 152)
        self.bad(lines("tree 2", "folder " + "/a" * 201), 2)

    def test_any_cut_and_any_line_more(self):
        chance = random.Random(4)
        for _ in range(40):
            tree = PlainTree()
            for _ in range(25):
                path, new = ["/" + "/".join(chance.choice("abc") for _ in range(chance.randrange(1, 4))) for _ in "12"]
                text = "\n".join(chance.choice(("", "x", "text 0 1")) for _ in range(chance.randrange(4)))
                tree.done(chance.choice((("make", path), ("write", path, text), ("link", path, new), ("move", path, new))))
            rows = tree.text.split("\n")
            self.assertEqual(read_tree(tree.text), tree)
            self.bad(tree.text + "\n", len(rows) + 1)
            for many in range(1, len(rows)):
                self.bad(lines(*rows[:many]), many + 1)
                self.changed(rows, many, chance)

    def changed(self, rows, place, chance):
        """One line is another one: what is read has just this text, or the first bad line is the first one."""
        line = chance.choice(rows + ["", "folder /c/c/c", "file /c 1", "text 1 2", "file /b 0", "text 0 3", "folder /b"])
        rows = [*rows[:place], line, *rows[place + 1:]]
        error = raised(read_tree, lines(*rows))
        if error is None:
            self.good(lines(*rows))
            return
        number = error.value
        self.assertTrue(place + 1 <= number <= len(rows) + 1)
        for many in range(1, number):
            ahead = raised(read_tree, lines(*rows[:many]))
            self.assertTrue(many == number - 1 and ahead is None or ahead.value == many + 1)
        self.bad(lines(*rows[:number]), number)


if __name__ == "__main__":
    unittest.main()
