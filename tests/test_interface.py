"""The interface that has landed, and what ../shared/LANGUAGE.md says of files, as far as it is easily seen."""

import ast
import inspect
import pathlib
import unittest
from importlib import import_module

FUNCTIONS = {
    "values": {
        "is_value": ["value"], "value_text": ["value"], "read_value": ["text"], "first_values": ["text"],
        "is_seal": ["value"], "seals_in": ["value"], "all_seals": ["value"], "handed_on": ["got", "value"],
    },
    "plain": {
        "is_path": ["value"], "is_deed": ["value"], "changes": ["deed"], "parts_of": ["path"],
        "path_of": ["parts"], "played": ["deeds"],
    },
    "plaintexts": {"tree_text": ["tree"], "read_tree": ["text"]},
    "maps": {
        "map_get": ["bag", "root", "key"], "map_has": ["bag", "root", "key"], "map_put": ["bag", "name", "root", "key", "value"],
        "map_drop": ["bag", "name", "root", "key"], "map_of": ["bag", "name", "rows"], "map_rows": ["bag", "root"],
        "map_size": ["bag", "root"], "map_part": ["bag", "root", "low", "many"], "map_blocks": ["bag", "root"],
        "map_changes": ["bag", "one", "other"],
    },
    "files": {
        "file_new": ["bag", "name", "text"], "file_text": ["bag", "root"], "file_length": ["bag", "root"],
        "file_part": ["bag", "root", "at", "many"], "file_put": ["bag", "name", "root", "at", "text"],
        "file_cut": ["bag", "name", "root", "length"], "file_unlike": ["bag", "one", "other"], "file_blocks": ["bag", "root"],
    },
    "trees": {
        "tree_new": ["bag", "name"], "tree_do": ["bag", "name", "root", "deed"], "tree_of": ["bag", "name", "plain"],
        "tree_plain": ["bag", "root"], "tree_thing": ["bag", "root", "path"], "tree_blocks": ["bag", "root"],
        "tree_many": ["bag", "root"],
    },
    "discs": {
        "is_image": ["value"], "new_image": ["sectors"], "done_steps": ["image", "steps"], "open_writes": ["image", "steps"],
        "left_by": ["image", "steps", "choices"],
    },
    "keeps": {"keep_again": ["image"]},
    "rows": {
        "is_past": ["names", "value"], "sides": ["one", "other"], "joined": ["one", "other"], "common": ["one", "other"],
        "row_of": ["names", "past", "counts"], "row_sides": ["names", "past", "one", "other"],
        "parting": ["names", "past", "one", "other"], "ends": ["names", "past"], "stood_on": ["names", "past", "counts"],
        "made_on": ["names", "past", "name", "counts", "deed"], "rows_told": ["names", "past", "rows"],
    },
    "desk": {"desk_again": ["image", "room"]},
    "house": {"house_again": ["image"]},
    "mend": {
        "needs": ["bag", "root", "deed"], "lacks": ["bag", "root"], "saved_paths": ["bag", "root"], "lost_paths": ["bag", "root"],
        "mended": ["bag", "name", "root"], "mended_by": ["bag", "name", "root", "elders"],
    },
    "merge": {"unlike": ["one", "other"], "merged": ["base", "one", "other"]},
    "views": {
        "are_tellings": ["names", "value"], "judged_tellings": ["names", "tellings"], "past_of": ["names", "tellings"],
        "tree_told": ["names", "tellings", "counts"], "worlds_of": ["names", "tellings"],
        "first_apart": ["names", "tellings", "one", "other"], "house_day": ["names", "tellings"],
        "is_house_day": ["names", "tellings", "value"],
    },
    "known": {
        "heard_of": ["names", "events", "name"], "first_lie": ["names", "events"], "knowing": ["names", "events"],
        "why_known": ["names", "events", "name"], "shows_why": ["names", "events", "name", "value"],
        "fewest_meetings": ["names", "events"], "shows_fewest": ["names", "events", "value"],
    },
    "lesser": {
        "run_of": ["rule", "is_honest", "events"], "least_wrong": ["rule"], "shows_least_wrong": ["rule", "value"],
        "wrong_words": ["rule"],
    },
    "shell": {"typed": ["shell", "tree", "text"]},
    "days": {"day_report": ["text"], "plain_day": ["text"]},
}
# Of each class: its parameters, its methods with theirs, and an object of it.
CLASSES = {
    "plain.PlainTree": ([], {"done": ["deed"], "answer": ["deed"], "paths": [], "links": ["path"], "copy": []}, ()),
    "bag.Bag": ([], {
        "next_number": ["name"], "skip_to": ["name", "number"], "add": ["name", "body"], "take": ["seal"], "body": ["block"],
        "seal_of": ["block"], "let_go": ["block"], "copy": [],
    }, ()),
    "keeps.Keep": (["sectors"], {"add": ["value"], "pack": ["values"]}, (16,)),
    "desk.Desk": (["name", "names", "room", "sectors"], {
        "ask": ["deed"], "hear": ["answer"], "rest": [], "meet": ["counts"], "pack": [],
    }, ("ann", ("ann", "bob"), 40, 200)),
    "house.House": (["names", "sectors"], {"hear": ["name", "message"], "copy": [], "pack": []}, (("ann", "bob"), 1000)),
    "shell.Shell": ([], {"line": ["text"], "hear": ["answer"], "copy": []}, ()),
    "days.Day": (["text"], {"go_on": [], "counts_of": ["name"], "tree_of": ["name"]}, ("desks ann bob",)),
}
PROPERTIES = {
    "plain.PlainTree": ["text"], "bag.Bag": ["blocks"], "keeps.Keep": ["sectors", "rows", "image", "steps"],
    "desk.Desk": ["name", "names", "room", "counts", "doing", "made", "is_cheated", "held", "image", "steps"],
    "house.House": ["names", "counts", "waiting", "image", "steps"],
    "shell.Shell": ["place", "wants"], "days.Day": ["text", "at", "names", "houses"],
}
PACKAGE = pathlib.Path(__file__).resolve().parent.parent / "lyinghouse"


class Interface(unittest.TestCase):

    def test_functions_are_defined_in_their_files(self):
        for file, names in FUNCTIONS.items():
            module = import_module("lyinghouse." + file)
            for name, parameters in names.items():
                found = vars(module)[name]
                self.assertEqual(found.__module__, "lyinghouse." + file)
                self.assertEqual(list(inspect.signature(found).parameters), parameters, name)

    def test_classes_have_their_methods_themselves(self):
        for told, (parameters, methods, args) in CLASSES.items():
            file, name = told.split(".")
            kind = vars(import_module("lyinghouse." + file))[name]
            self.assertEqual(kind.__module__, "lyinghouse." + file)
            self.assertEqual(list(inspect.signature(kind).parameters), parameters)
            for method, its in methods.items():
                found = list(inspect.signature(vars(kind)[method]).parameters)
                self.assertEqual(found, ["self"] + its, method)
            for attribute in PROPERTIES[told]:
                self.assertTrue(hasattr(kind(*args), attribute), attribute)

    def test_arguments_may_be_named(self):
        values, plain, texts = [import_module("lyinghouse." + file) for file in ("values", "plain", "plaintexts")]
        self.assertEqual(values.read_value(text=values.value_text(value=(1,))), (1,))
        self.assertEqual(values.first_values(text="n"), ((None,), 1))
        self.assertTrue(values.is_value(value=1) and not values.is_seal(value=1))
        self.assertEqual((values.seals_in(value=1), values.all_seals(value=1)), ((), ()))
        self.assertTrue(values.handed_on(value=1, got=()))
        self.assertTrue(plain.is_path(value="/") and plain.is_deed(value=("look", "/")))
        self.assertFalse(plain.changes(deed=("look", "/")))
        self.assertEqual(plain.path_of(parts=plain.parts_of(path="/a")), "/a")
        answers, tree = plain.played(deeds=(("write", "/a", ""),))
        self.assertEqual(tree.done(deed=("look", "/a")), tree.answer(deed=("look", "/a")))
        self.assertEqual(tree.links(path="/a"), ("/a",))
        self.assertEqual(texts.read_tree(text=texts.tree_text(tree=tree)), tree)


class Files(unittest.TestCase):

    def test_folder_holds_files_of_python_alone(self):
        found = [path for path in PACKAGE.iterdir() if path.name != "__pycache__"]
        self.assertTrue(all(path.suffix == ".py" for path in found))

    def test_sizes_and_signs(self):
        for path in PACKAGE.glob("*.py"):
            text = path.read_text(encoding="utf-8")
            lines = text.split("\n")
            self.assertLessEqual(len(lines), 399, path.name)
            self.assertLessEqual(max(len(line) for line in lines), 120, path.name)
            self.assertTrue(text.replace("\n", "").isascii(), path.name)
            self.assertTrue(text.replace("\n", "").isprintable(), path.name)

    def test_functions_are_short(self):
        for path in PACKAGE.glob("*.py"):
            for node in ast.walk(ast.parse(path.read_text(encoding="utf-8"))):
                if isinstance(node, ast.FunctionDef):
                    self.assertLessEqual(node.end_lineno - node.lineno + 1, 40, node.name)

    def test_imports_name_the_file_that_defines(self):
        for path in PACKAGE.glob("*.py"):
            for node in ast.walk(ast.parse(path.read_text(encoding="utf-8"))):
                self.assertNotIsInstance(node, ast.Import, path.name)
                if isinstance(node, ast.ImportFrom):
                    self.assertTrue(node.module.startswith("lyinghouse."), path.name)
                    self.assertTrue(all(name.asname is None for name in node.names), path.name)
                    for name in node.names:
                        self.assertIn(name.name, self.names_bound(node.module), path.name)

    def names_bound(self, module):
        """The names that a module binds by itself, not by an import."""
        tree = ast.parse((PACKAGE.parent / (module.replace(".", "/") + ".py")).read_text(encoding="utf-8"))
        names = [node.name for node in tree.body if isinstance(node, (ast.FunctionDef, ast.ClassDef))]
        return names + [node.targets[0].id for node in tree.body if isinstance(node, ast.Assign)]


if __name__ == "__main__":
    unittest.main()
