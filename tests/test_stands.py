"""spoorfold.stands: names, and how many of each sort a hall keeps."""

import unittest

from spoorfold.stands import MOST_LINES, MOST_NAMES, MOST_PAPERS, is_name

NAMES = ["a", "z", "ab", "hall", "zzzzzzzz", "abcdefgh", "none", "like", "ijklmnop"]
NO_NAMES = ["", "abcdefghi", "A", "aB", "Ab", "a1", "1", "a b", " a", "a ", "-", "a-b", "a\n", "\n", "_", "a_b", "{", "`"]


class NamesTest(unittest.TestCase):

    def test_the_numbers_told(self):
        self.assertEqual((MOST_LINES, MOST_NAMES, MOST_PAPERS), (12, 20, 12))

    def test_names(self):
        for text in NAMES:
            self.assertIs(is_name(text), True, text)

    def test_no_names(self):
        for text in NO_NAMES:
            self.assertIs(is_name(text), False, text)

    def test_each_sign(self):
        for code in range(32, 127):
            self.assertIs(is_name(chr(code)), "a" <= chr(code) <= "z")
            self.assertIs(is_name("ab" + chr(code) + "c"), "a" <= chr(code) <= "z")

    def test_how_many_letters(self):
        for many in range(20):
            self.assertIs(is_name("q" * many), 1 <= many <= 8)

    def test_by_name(self):
        self.assertIs(is_name(text="ab"), True)


if __name__ == "__main__":
    unittest.main()
