"""The examples of README.md."""

import doctest
import unittest
from pathlib import Path

README = Path(__file__).resolve().parent.parent / "README.md"


class Readme(unittest.TestCase):
    def test_examples(self):
        # The fences around the examples are not part of what is told.
        text = README.read_text().replace("```", "")
        examples = doctest.DocTestParser().get_doctest(text, {}, "README.md", "README.md", 0)
        self.assertGreater(len(examples.examples), 30)
        results = doctest.DocTestRunner(verbose=False).run(examples)
        self.assertEqual(results.failed, 0)

    def test_every_module_is_named(self):
        text = README.read_text()
        for word in ("cutbehind.view.least", "cutbehind.pairs.races", "cutbehind.pairs.edits", "cutbehind.menus.menus",
                     "cutbehind.bounds.lengths", "cutbehind.live.feeders", "cutbehind.live.shelf",
                     "cutbehind.text.shell"):
            self.assertIn(word, text)
