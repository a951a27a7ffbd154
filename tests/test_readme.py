"""The examples of README.md print what it says."""

import io
import re
import unittest
from contextlib import redirect_stdout
from pathlib import Path

README = Path(__file__).resolve().parent.parent / "README.md"


class Readme(unittest.TestCase):
    def test_examples(self):
        text = README.read_text()
        known = {}
        printed = []
        for block in re.findall("```python\n(.*?)```", text, re.S):
            caught = io.StringIO()
            with redirect_stdout(caught):
                exec(block, known)
            printed.append(caught.getvalue())
        self.assertEqual(len(printed), 3)
        for lines in printed:
            self.assertTrue(f"```\n{lines}```" in text or f"prints `{lines.strip()}`" in text, lines)

    def test_every_file_is_named(self):
        text = README.read_text()
        for path in (README.parent / "stackorder").glob("[a-z]*.py"):
            self.assertIn(f"`{path.stem}`", text)
