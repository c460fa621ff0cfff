"""The document's own examples, as they stand there: one file of tests/examples for each session; and README.md."""

import doctest
import pathlib
import unittest

FOLDER = pathlib.Path(__file__).parent / "examples"


class Examples(unittest.TestCase):
    def test_sessions(self):
        paths = sorted(FOLDER.glob("*.txt"))
        self.assertGreater(len(paths), 0)
        for path in paths + [FOLDER.parent.parent / "README.md"]:
            found = doctest.testfile(str(path), module_relative=False)
            self.assertGreater(found.attempted, 0, path.name)
            self.assertEqual(found.failed, 0, path.name)


if __name__ == "__main__":
    unittest.main()
