"""The interface that has landed, and what ../shared/LANGUAGE.md says of files, as far as it is easily seen."""

import ast
import inspect
import pathlib
import unittest
from importlib import import_module

FUNCTIONS = {
    "values": {
        "is_value": ["value"], "value_text": ["value"], "read_value": ["text"], "first_values": ["text"],
        "is_seal": ["value"], "seals_in": ["value"], "all_seals": ["value"], "handed_on": ["got", "value"],
    },
    "plain": {
        "is_path": ["value"], "is_deed": ["value"], "changes": ["deed"], "parts_of": ["path"],
        "path_of": ["parts"], "played": ["deeds"],
    },
    "plaintexts": {"tree_text": ["tree"], "read_tree": ["text"]},
}
METHODS = {"done": ["deed"], "answer": ["deed"], "paths": [], "links": ["path"], "copy": []}
PACKAGE = pathlib.Path(__file__).resolve().parent.parent / "lyinghouse"


class Interface(unittest.TestCase):

    def test_functions_are_defined_in_their_files(self):
        for file, names in FUNCTIONS.items():
            module = import_module("lyinghouse." + file)
            for name, parameters in names.items():
                found = vars(module)[name]
                self.assertEqual(found.__module__, "lyinghouse." + file)
                self.assertEqual(list(inspect.signature(found).parameters), parameters, name)

    def test_the_class_has_its_methods_itself(self):
        kind = import_module("lyinghouse.plain").PlainTree
        self.assertEqual(kind.__module__, "lyinghouse.plain")
        self.assertEqual(list(inspect.signature(kind).parameters), [])
        self.assertIsInstance(vars(kind)["text"], property)
        for name, parameters in METHODS.items():
            found = list(inspect.signature(vars(kind)[name]).parameters)
            self.assertEqual(found, ["self"] + parameters, name)

    def test_arguments_may_be_named(self):
        values, plain, texts = [import_module("lyinghouse." + file) for file in FUNCTIONS]
        self.assertEqual(values.read_value(text=values.value_text(value=(1,))), (1,))
        self.assertEqual(values.first_values(text="n"), ((None,), 1))
        self.assertTrue(values.is_value(value=1) and not values.is_seal(value=1))
        self.assertEqual((values.seals_in(value=1), values.all_seals(value=1)), ((), ()))
        self.assertTrue(values.handed_on(value=1, got=()))
        self.assertTrue(plain.is_path(value="/") and plain.is_deed(value=("look", "/")))
        self.assertFalse(plain.changes(deed=("look", "/")))
        self.assertEqual(plain.path_of(parts=plain.parts_of(path="/a")), "/a")
        answers, tree = plain.played(deeds=(("write", "/a", ""),))
        self.assertEqual(tree.done(deed=("look", "/a")), tree.answer(deed=("look", "/a")))
        self.assertEqual(tree.links(path="/a"), ("/a",))
        self.assertEqual(texts.read_tree(text=texts.tree_text(tree=tree)), tree)


class Files(unittest.TestCase):

    def test_folder_holds_files_of_python_alone(self):
        found = [path for path in PACKAGE.iterdir() if path.name != "__pycache__"]
        self.assertTrue(all(path.suffix == ".py" for path in found))

    def test_sizes_and_signs(self):
        for path in PACKAGE.glob("*.py"):
            text = path.read_text(encoding="utf-8")
            lines = text.split("\n")
            self.assertLessEqual(len(lines), 399, path.name)
            self.assertLessEqual(max(len(line) for line in lines), 120, path.name)
            self.assertTrue(text.replace("\n", "").isascii(), path.name)
            self.assertTrue(text.replace("\n", "").isprintable(), path.name)

    def test_functions_are_short(self):
        for path in PACKAGE.glob("*.py"):
            for node in ast.walk(ast.parse(path.read_text(encoding="utf-8"))):
                if isinstance(node, ast.FunctionDef):
                    self.assertLessEqual(node.end_lineno - node.lineno + 1, 40, node.name)

    def test_imports_name_the_file_that_defines(self):
        for path in PACKAGE.glob("*.py"):
            for node in ast.walk(ast.parse(path.read_text(encoding="utf-8"))):
                self.assertNotIsInstance(node, ast.Import, path.name)
                if isinstance(node, ast.ImportFrom):
                    self.assertTrue(node.module.startswith("lyinghouse."), path.name)
                    self.assertTrue(all(name.asname is None for name in node.names), path.name)
                    for name in node.names:
                        self.assertIn(name.name, self.names_bound(node.module), path.name)

    def names_bound(self, module):
        """The names that a module binds by itself, not by an import."""
        tree = ast.parse((PACKAGE.parent / (module.replace(".", "/") + ".py")).read_text(encoding="utf-8"))
        names = [node.name for node in tree.body if isinstance(node, (ast.FunctionDef, ast.ClassDef))]
        return names + [node.targets[0].id for node in tree.body if isinstance(node, ast.Assign)]


if __name__ == "__main__":
    unittest.main()
