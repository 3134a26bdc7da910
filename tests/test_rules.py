"""Point 71: the words of the rules."""

import unittest

from fineststep.rules import RULES


class Rules(unittest.TestCase):
    def test_the_words(self):
        self.assertEqual(RULES, ("first", "last", "gain", "fall"))
        self.assertIs(type(RULES), tuple)


if __name__ == "__main__":
    unittest.main()
