"""The examples of the document, as they stand there."""

import doctest
import pathlib
import unittest

FOLDER = pathlib.Path(__file__).resolve().parent / "examples"


class Examples(unittest.TestCase):

    def test_each_file(self):
        files = sorted(FOLDER.glob("*.txt"))
        self.assertEqual([file.name for file in files], ["files.txt", "keeps.txt", "maps.txt", "plain.txt", "rows.txt", "trees.txt", "values.txt"])
        for file in files:
            failed, tried = doctest.testfile(str(file), module_relative=False)
            self.assertEqual(failed, 0, file.name)
            self.assertGreater(tried, 0, file.name)


if __name__ == "__main__":
    unittest.main()
