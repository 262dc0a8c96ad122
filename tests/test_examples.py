"""The examples of the document, each as it stands there."""

import doctest
import os
import unittest

EXAMPLES = os.path.join(os.path.dirname(os.path.abspath(__file__)), "examples")


class Examples(unittest.TestCase):
    def test_all_examples_tell_what_the_document_tells(self):
        names = sorted(os.listdir(EXAMPLES))
        self.assertEqual(names, [f"section_{number:02d}.txt" for number in range(4, 16)])
        for name in names:
            with self.subTest(name=name):
                told = doctest.testfile(os.path.join(EXAMPLES, name), module_relative=False)
                self.assertEqual(told.failed, 0)
                self.assertGreater(told.attempted, 1)


if __name__ == "__main__":
    unittest.main()
