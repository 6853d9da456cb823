"""The examples of the document are right."""

import doctest
import os
import unittest

FILE = os.path.join(os.path.dirname(os.path.abspath(__file__)), "examples.txt")
SECTIONS = ["1. Overview", "4. Formulas", "7. Runs", "8. All sequences of events", "9. Papers", "10. Orders", "12. Alike", "14. Desks"]


class DocumentTest(unittest.TestCase):
    def test_examples(self):
        with open(FILE, encoding="utf-8") as file:
            text = file.read()
        for section in SECTIONS:
            self.assertIn("\n" + section, text)
        failed, tried = doctest.testfile(FILE, module_relative=False, encoding="utf-8")
        self.assertEqual((failed, tried), (0, 33))


if __name__ == "__main__":
    unittest.main()
