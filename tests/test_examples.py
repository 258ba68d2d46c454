"""Every example of the sections that have landed, as it is written in the document."""

import os
import unittest

from tests.support import example_rows, run_example

FOLDER = os.path.join(os.path.dirname(__file__), "examples")


class Examples(unittest.TestCase):

    def test_examples(self):
        files = sorted(os.listdir(FOLDER))
        self.assertTrue(files)
        for file in files:
            with open(os.path.join(FOLDER, file), encoding="utf-8") as text:
                rows = example_rows(text.read())
            self.assertTrue(rows)
            names = {}
            for source, told in rows:
                with self.subTest(file=file, source=source):
                    self.assertEqual(run_example(source, names), told)
