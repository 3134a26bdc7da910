"""The examples of README.md: each value that stands behind a line is what the line gives."""

import os
import re
import unittest

README = os.path.join(os.path.dirname(os.path.dirname(os.path.abspath(__file__))), "README.md")


class Readme(unittest.TestCase):
    def test_the_examples(self):
        with open(README, encoding="utf-8") as file:
            code = re.search("```python\n(.*?)```", file.read(), re.DOTALL)[1]
        names, seen = {}, 0
        for line in code.split("\n"):
            source, _, shown = line.partition("  # ")
            assigned = re.match(r"(\w+) = ", source)
            if shown and not assigned:
                self.assertEqual(repr(eval(source, names)), shown.strip(), line)
            else:
                exec(source, names)
            if shown and assigned:
                self.assertEqual(repr(names[assigned[1]]), shown.strip(), line)
            seen += bool(shown)
        self.assertGreater(seen, 10)


if __name__ == "__main__":
    unittest.main()
