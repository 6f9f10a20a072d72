"""The examples of the document, as they stand there."""

import doctest
import pathlib
import unittest

MODULES = [
    "days", "desk", "files", "house", "keeps", "known", "lesser", "maps", "mend", "merge", "plain", "rows", "shell", "trees", "values", "views",
]
FOLDER = pathlib.Path(__file__).resolve().parent / "examples"


class Examples(unittest.TestCase):

    def test_each_file(self):
        files = sorted(FOLDER.glob("*.txt"))
        self.assertEqual([file.stem for file in files], MODULES)
        for file in files:
            failed, tried = doctest.testfile(str(file), module_relative=False)
            self.assertEqual(failed, 0, file.name)
            self.assertGreater(tried, 0, file.name)


if __name__ == "__main__":
    unittest.main()
