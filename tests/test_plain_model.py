"""Plain trees beside a model that holds paths alone: each path leads to a folder or to the box of a file."""

import random
import unittest

from lyinghouse.plain import PlainTree, played
from lyinghouse.plaintexts import read_tree

FOLDER = "folder"


class Model:

    def __init__(self):
        self.at = {"/": FOLDER}

    def stop(self, path):
        """Why one cannot go to the path."""
        steps = path.split("/")[1:] if path != "/" else []
        for many in range(len(steps)):
            here = "/" + "/".join(steps[:many])
            if self.at[here] != FOLDER:
                return "file"
            if "/" + "/".join(steps[:many + 1]) not in self.at:
                return "missing"
        return None

    def above(self, path):
        return path.rpartition("/")[0] or "/"

    def stop_before(self, path):
        above = self.above(path)
        return self.stop(above) or ("file" if self.at[above] != FOLDER else None)

    def below(self, path):
        return [other for other in self.at if other.startswith(path.rstrip("/") + "/") and other != "/"]

    def full(self):
        return len(self.at) - 1 == 200

    def new_entry(self, path, root="root"):
        """Why no entry can come at the path."""
        return (path == "/" and root) or self.stop_before(path) or (path in self.at and "taken")

    def reason(self, deed):
        word, path = deed[:2]
        box = self.at.get(path)
        if word == "make":
            return self.new_entry(path) or (self.full() and "full")
        if word == "write":
            if box not in (None, FOLDER):
                return None
            why = self.new_entry(path, "folder")
            return "folder" if why == "taken" else why or (self.full() and "full")
        if word in ("move", "remove") and "/" in deed[1:]:
            return "root"
        if self.stop(path):
            return self.stop(path)
        if word == "remove":
            return "used" if self.below(path) else None
        if word == "move":
            is_inside = box == FOLDER and deed[2].startswith(path + "/")
            return "inside" if is_inside else self.new_entry(deed[2])
        if word == "look":
            return None
        if word == "list":
            return None if box == FOLDER else "file"
        if box == FOLDER:
            return "folder"
        if word == "link":
            return self.new_entry(deed[2]) or (self.full() and "full")
        if word == "put":
            if deed[2] > len(box[0]):
                return "beyond"
            return "long" if max(len(box[0]), deed[2] + len(deed[3])) > 2000 else None
        return None

    def done(self, deed):
        why = self.reason(deed)
        if why:
            return ("no", why)
        word, path = deed[:2]
        box = self.at.get(path)
        if word == "look" and box == FOLDER:
            return ("folder", len([other for other in self.below(path) if self.above(other) == path]))
        if word == "look":
            return ("file", len(box[0]), len([other for other in self.at.values() if other is box]))
        if word == "list":
            names = [other.rpartition("/")[2] for other in self.below(path) if self.above(other) == path]
            return ("names", tuple(sorted(names)))
        if word == "read":
            return ("text", box[0])
        if word == "part":
            return ("text", "".join(sign for at, sign in enumerate(box[0]) if deed[2] <= at < deed[2] + deed[3]))
        self.change(word, path, box, deed[2:])
        return ("done",)

    def change(self, word, path, box, rest):
        if word == "make":
            self.at[path] = FOLDER
        elif word == "write":
            self.at.setdefault(path, [""])[0] = rest[0]
        elif word == "put":
            signs = list(box[0]) + [""] * len(rest[1])
            signs[rest[0]:rest[0] + len(rest[1])] = rest[1]
            box[0] = "".join(signs)
        elif word == "cut":
            box[0] = box[0][:rest[0]]
        elif word == "link":
            self.at[rest[0]] = box
        elif word == "remove":
            del self.at[path]
        else:
            for other in [path] + self.below(path):
                self.at[rest[0] + other[len(path):]] = self.at.pop(other)

    def paths(self):
        return tuple(sorted(path for path in self.at if path != "/"))

    def text(self):
        lines, boxes = [f"tree {len(self.at) - 1}"], []
        for path in self.paths():
            box = self.at[path]
            if box == FOLDER:
                lines.append("folder " + path)
                continue
            if not any(box is other for other in boxes):
                boxes.append(box)
            number = [other is box for other in boxes].index(True)
            lines.append(f"file {path} {number}")
        for number, box in enumerate(boxes):
            lines.append(f"text {number} {box[0].count(chr(10)) + 1}")
            lines.append(box[0])
        return "\n".join(lines)


def some_deed(chance):
    names = ("a", "b", "a.", "z_9")
    path, new = ["/" + "/".join(chance.choice(names) for _ in range(chance.choice((0, 1, 1, 1, 2, 2, 3, 4)))) for _ in "12"]
    text = chance.choice(("", "x", "one\ntwo\n", "yz" * 900, "\n" * 2000, "q" * 1500))
    at = chance.choice((0, 1, 4, 8, 500, 1999, 2000))
    many = chance.choice((0, 1, 3, 2000))
    return chance.choice((
        ("make", path), ("make", path), ("write", path, text), ("write", path, text), ("put", path, at, text),
        ("cut", path, at), ("link", path, new), ("move", path, new), ("remove", path), ("read", path),
        ("part", path, at, many), ("list", path), ("look", path)))


class BesideTheModel(unittest.TestCase):

    def go_on(self, chance, ahead, many):
        tree, model = played(ahead)[1], Model()
        for deed in ahead:
            model.done(deed)
        seen = set()
        for _ in range(many):
            deed = some_deed(chance)
            before = tree.text
            told = tree.answer(deed)
            self.assertEqual(tree.text, before)
            self.assertEqual(tree.done(deed), told)
            self.assertEqual(told, model.done(deed), deed)
            self.assertEqual(tree.text, model.text())
            self.assertEqual(tree.paths(), model.paths())
            self.assertEqual(read_tree(tree.text), tree)
            seen.add(told[1] if told[0] == "no" else told[0])
        for path in tree.paths():
            box = model.at[path]
            if box != FOLDER:
                links = tuple(other for other in model.paths() if model.at[other] is box)
                self.assertEqual(tree.links(path), links)
        return seen

    def test_many_deeds(self):
        chance, seen = random.Random(1), set()
        for _ in range(12):
            seen |= self.go_on(chance, (), 400)
        words = {"root", "file", "missing", "taken", "folder", "beyond", "long", "inside", "used"}
        self.assertEqual(seen, words | {"done", "text", "names", "folder", "file"})

    def test_nearly_full_trees(self):
        chance = random.Random(2)
        ahead = (("make", "/f"), *[("make", f"/f/{number}") for number in range(194)])
        seen = self.go_on(chance, ahead, 600)
        self.assertIn("full", seen)

    def test_some_deeds_make_each_tree(self):
        chance = random.Random(3)
        for _ in range(20):
            tree = PlainTree()
            for _ in range(60):
                tree.done(some_deed(chance))
            deeds, firsts = [], {}
            for path in tree.paths():
                if tree.answer(("look", path))[0] == "folder":
                    deeds.append(("make", path))
                elif tree.links(path)[0] == path:
                    deeds.append(("write", path, tree.answer(("read", path))[1]))
                else:
                    deeds.append(("link", tree.links(path)[0], path))
            self.assertEqual(played(tuple(deeds))[1], tree)


if __name__ == "__main__":
    unittest.main()
