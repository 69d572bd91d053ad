"""The examples of the document, word for word."""

import doctest
import pathlib
import unittest

FOLDER = pathlib.Path(__file__).parent / "examples"


class Examples(unittest.TestCase):
    def test_each(self):
        files = sorted(FOLDER.glob("*.txt"))
        self.assertTrue(files)
        for file in files:
            with self.subTest(file=file.name):
                failed, tried = doctest.testfile(str(file), module_relative=False)
                self.assertEqual(failed, 0)
                self.assertGreater(tried, 1)


if __name__ == "__main__":
    unittest.main()
