"""spoorfold.words: what a word is, undone, reduced, its letters, how words rise."""

import unittest

import naive
from spoorfold.errors import BadWord, SpoorError
from spoorfold.words import LETTERS, MOST_WORD, below, is_word, letters_of, reduced, undone

# Texts that are no words: too long by one, and with one other sign first, in the middle and last.
OTHER_SIGNS = ["i", "I", "z", "Z", "0", "1", "-", " ", "\n", "'", "@", "`", "_", "~", "!"]
NO_WORDS = ["a" * 61, "aA" * 30 + "a", "H" * 61, "a" * 100, "i", "I", " ", "-", "\n", "i" * 61]
NO_WORDS += [sign + "ab" for sign in OTHER_SIGNS]
NO_WORDS += ["a" + sign + "b" for sign in OTHER_SIGNS]
NO_WORDS += ["ab" + sign for sign in OTHER_SIGNS]
NO_WORDS += [" ", "\n", "a b", "ab ", "ab\n", " ab"]
NO_WORDS += ["i" + "a" * 59, "a" * 30 + "i" + "a" * 29, "a" * 59 + "i"]


class IsWordTest(unittest.TestCase):

    def test_the_numbers_told(self):
        self.assertEqual(LETTERS, "abcdefgh")
        self.assertEqual(MOST_WORD, 60)

    def test_the_text_without_signs(self):
        self.assertIs(is_word(""), True)

    def test_each_letter(self):
        for sign in "abcdefghABCDEFGH":
            self.assertIs(is_word(sign), True, sign)
            self.assertIs(is_word(sign * 60), True, sign)

    def test_how_many_signs(self):
        for many, answer in [(1, True), (2, True), (59, True), (60, True), (61, False), (62, False), (120, False)]:
            self.assertIs(is_word("a" * many), answer, many)
            self.assertIs(is_word("H" * many), answer, many)
            self.assertIs(is_word(("aAbB" * 30)[:many]), answer, many)

    def test_words_are_not_reduced_ahead_of_counting(self):
        self.assertIs(is_word("aA" * 30), True)
        self.assertIs(is_word("aA" * 31), False)

    def test_other_signs(self):
        for sign in [chr(number) for number in range(32, 127)] + ["\n"]:
            answer = sign in "abcdefghABCDEFGH"
            for text in [sign, sign + "ab", "a" + sign + "b", "ab" + sign]:
                self.assertIs(is_word(text), answer, text)

    def test_texts_that_are_none(self):
        for text in NO_WORDS:
            self.assertIs(is_word(text), False, text)

    def test_by_name(self):
        self.assertIs(is_word(text="abc"), True)


class UndoneTest(unittest.TestCase):

    def test_ordinary(self):
        for word, answer in [("", ""), ("a", "A"), ("A", "a"), ("ab", "BA"), ("abC", "cBA"), ("aA", "aA"),
                             ("aab", "BAA"), ("hGf", "FgH"), ("abcdefgh", "HGFEDCBA")]:
            self.assertEqual(undone(word), answer)

    def test_each_sign_alone(self):
        for small, great in zip("abcdefgh", "ABCDEFGH"):
            self.assertEqual(undone(small), great)
            self.assertEqual(undone(great), small)

    def test_it_is_not_reduced(self):
        self.assertEqual(undone("abB"), "bBA")
        self.assertEqual(undone("aAaA"), "aAaA")

    def test_against_the_slow_way(self):
        for word in naive.words_upto(4):
            self.assertEqual(undone(word), naive.undone(word))

    def test_undone_twice(self):
        for word in naive.words_upto(4):
            self.assertEqual(undone(undone(word)), word)
        self.assertEqual(undone(undone("abCdeFgH")), "abCdeFgH")

    def test_the_longest(self):
        self.assertEqual(undone("a" * 59 + "B"), "b" + "A" * 59)

    def test_by_name(self):
        self.assertEqual(undone(word="ab"), "BA")

    def test_bad_words(self):
        for text in NO_WORDS:
            with self.assertRaises(BadWord, msg=text):
                undone(text)


class ReducedTest(unittest.TestCase):

    def test_ordinary(self):
        for word, answer in [("", ""), ("a", "a"), ("A", "A"), ("ab", "ab"), ("aa", "aa"), ("abA", "abA"),
                             ("aAb", "b"), ("Aab", "b"), ("abB", "a"), ("baAB", ""), ("aB", "aB"), ("aBA", "aBA")]:
            self.assertEqual(reduced(word), answer, word)

    def test_to_nothing(self):
        for word in ["aA", "Aa", "abBA", "aAaA", "aAAa", "hH", "abcdDCBA", "aAbBcC", "aA" * 30]:
            self.assertEqual(reduced(word), "", word)

    def test_each_letter_either_way_about(self):
        for small, great in zip("abcdefgh", "ABCDEFGH"):
            self.assertEqual(reduced(small + great), "")
            self.assertEqual(reduced(great + small), "")
            self.assertEqual(reduced(small + small), small + small)
            self.assertEqual(reduced(great + great), great + great)

    def test_one_pair_makes_the_next(self):
        self.assertEqual(reduced("abcCBAd"), "d")
        self.assertEqual(reduced("dabcCBA"), "d")
        self.assertEqual(reduced("habcCBf"), "haf")
        self.assertEqual(reduced("abBAab"), "ab")
        self.assertEqual(reduced("a" * 30 + "A" * 30), "")
        self.assertEqual(reduced("a" * 31 + "A" * 29), "aa")
        self.assertEqual(reduced("a" * 29 + "A" * 31), "AA")

    def test_three_signs_of_which_either_pair_may_go(self):
        self.assertEqual(reduced("aAa"), "a")
        self.assertEqual(reduced("AaA"), "A")

    def test_other_letters_do_not_undo_each_other(self):
        for word in ["aB", "bA", "Ab", "aBAb", "abAB"]:
            self.assertEqual(reduced(word), word)

    def test_against_the_slow_way(self):
        for word in naive.words_upto(6):
            self.assertEqual(reduced(word), naive.reduced(word), word)
        for word in naive.words_upto(3, naive.RISING):
            self.assertEqual(reduced(word), naive.reduced(word), word)

    def test_the_longest(self):
        self.assertEqual(reduced("ab" * 30), "ab" * 30)
        self.assertEqual(reduced("abBA" * 15), "")

    def test_by_name(self):
        self.assertEqual(reduced(word="abB"), "a")

    def test_bad_words(self):
        for text in NO_WORDS:
            with self.assertRaises(BadWord, msg=text):
                reduced(text)

    def test_what_would_be_a_word_when_reduced(self):
        with self.assertRaises(BadWord):
            reduced("aA" * 31)


class LettersOfTest(unittest.TestCase):

    def test_ordinary(self):
        for word, answer in [("", ""), ("a", "a"), ("A", "a"), ("aA", "a"), ("ba", "ab"), ("Ba", "ab"), ("bA", "ab"),
                             ("hgfedcba", "abcdefgh"), ("HhHgG", "gh"), ("cac", "ac"), ("Dd", "d"), ("CaCa", "ac")]:
            self.assertEqual(letters_of(word), answer, word)

    def test_letters_that_are_reduced_away_are_in_it(self):
        self.assertEqual(letters_of("abBA"), "ab")

    def test_each_letter(self):
        for small, great in zip("abcdefgh", "ABCDEFGH"):
            self.assertEqual(letters_of(small), small)
            self.assertEqual(letters_of(great), small)

    def test_the_longest(self):
        self.assertEqual(letters_of("B" * 59 + "a"), "ab")

    def test_by_name(self):
        self.assertEqual(letters_of(word="cB"), "bc")

    def test_bad_words(self):
        for text in NO_WORDS:
            with self.assertRaises(BadWord, msg=text):
                letters_of(text)


class BelowTest(unittest.TestCase):

    def rises(self, one, other):
        self.assertIs(below(one, other), True, (one, other))
        self.assertIs(below(other, one), False, (other, one))

    def test_unlike_lengths(self):
        for one, other in [("", "a"), ("a", "aa"), ("H", "aa"), ("b", "aa"), ("hH", "aaa"), ("a" * 59, "a" * 60),
                           ("H" * 59, "a" * 60), ("", "H" * 60)]:
            self.rises(one, other)

    def test_signs_rise(self):
        for one, other in zip(naive.RISING, naive.RISING[1:]):
            self.rises(one, other)
        self.rises("a", "A")
        self.rises("A", "b")
        self.rises("a", "b")
        self.rises("A", "B")
        self.rises("B", "c")
        self.rises("a", "H")

    def test_one_sign_differs(self):
        for one, other in zip(naive.RISING, naive.RISING[1:]):
            self.rises(one + "cc", other + "cc")
            self.rises("c" + one + "c", "c" + other + "c")
            self.rises("cc" + one, "cc" + other)

    def test_the_first_sign_that_differs(self):
        self.rises("ab", "Aa")
        self.rises("aH", "Aa")
        self.rises("cAh", "cba")

    def test_a_word_against_itself(self):
        for word in ["", "a", "A", "abA", "a" * 60]:
            self.assertIs(below(word, word), False)

    def test_words_are_not_reduced(self):
        self.rises("b", "aA")
        self.rises("", "aA")

    def test_against_the_slow_way(self):
        words = list(naive.words_upto(3))
        for at, one in enumerate(words):
            for number, other in enumerate(words):
                self.assertIs(below(one, other), at < number, (one, other))

    def test_by_name(self):
        self.assertIs(below(other="b", one="a"), True)

    def test_bad_words(self):
        for text in NO_WORDS:
            for one, other in [(text, "a"), ("a", text), (text, text), (text, ""), ("", text)]:
                with self.assertRaises(BadWord, msg=(one, other)):
                    below(one, other)


class RefusalTest(unittest.TestCase):

    def test_what_is_refused_tells_its_word(self):
        for asked in [undone, reduced, letters_of, lambda text: below(text, "a"), lambda text: below("a", text)]:
            with self.assertRaises(SpoorError) as caught:
                asked("abi")
            self.assertEqual(caught.exception.word, "badword")


if __name__ == "__main__":
    unittest.main()
