"""spoorfold.steps: the three kinds of flat steps, walks of them, and walks that are told."""

import itertools
import random
import unittest

import naive
from spoorfold.errors import BadStep, BadWord
from spoorfold.steps import between, stepped, to_plain, walked
from spoorfold.tracks import Track

LONG = "a" * 60

# A word, a step that fits, the next word.
FITTING = [
    ("a", ("there", 0, "a"), "aAa"),
    ("A", ("there", 0, "A"), "AaA"),
    ("ab", ("there", 0, "ab"), "abBAab"),
    ("abc", ("there", 1, "b"), "abBbc"),
    ("abc", ("there", 2, "c"), "abcCc"),
    ("abc", ("there", 1, "bc"), "abcCBbc"),
    ("aA", ("there", 0, "aA"), "aAaAaA"),
    ("hHg", ("there", 1, "Hg"), "hHgGhHg"),
    ("aAa", ("back", 0, "a"), "a"),
    ("AaA", ("back", 0, "A"), "A"),
    ("abBAab", ("back", 0, "ab"), "ab"),
    ("abBbc", ("back", 1, "b"), "abc"),
    ("baAa", ("back", 1, "a"), "ba"),
    ("aAaAaA", ("back", 0, "aA"), "aA"),
    ("aAaA", ("back", 0, "a"), "aA"),
    ("aAaA", ("back", 1, "A"), "aA"),
    ("aAbB", ("swap", 0, "a", "b"), "bBaA"),
    ("bBaA", ("swap", 0, "b", "a"), "aAbB"),
    ("AabBc", ("swap", 0, "A", "b"), "bBAac"),
    ("caAbB", ("swap", 1, "a", "b"), "cbBaA"),
    ("haAbBh", ("swap", 1, "a", "b"), "hbBaAh"),
    ("abBAcC", ("swap", 0, "ab", "c"), "cCabBA"),
    ("cCabBA", ("swap", 0, "c", "ab"), "abBAcC"),
    ("aAaA", ("swap", 0, "a", "a"), "aAaA"),
    ("aAAa", ("swap", 0, "a", "A"), "AaaA"),
]

# Steps that fit nowhere in this word, or not there.
BESIDE_WORD = "caAaAbBd"
BESIDE = [
    ("there", 0, "a"), ("there", 2, "a"), ("there", 1, "A"), ("there", 1, "ab"), ("there", 0, "d"), ("there", 0, "e"),
    ("there", 7, "D"), ("there", 7, "da"), ("there", 7, "dd"), ("there", 8, "a"), ("there", 8, "d"), ("there", 9, "d"),
    ("there", 1000, "c"), ("there", 10 ** 30, "c"), ("there", -1, "d"), ("there", -8, "c"), ("there", -1, "c"),
    ("back", 0, "a"), ("back", 1, "A"), ("back", 3, "a"), ("back", 0, "c"), ("back", 5, "b"), ("back", 1, "aA"),
    ("back", 7, "d"), ("back", 8, "a"), ("back", 9, "a"), ("back", -7, "a"), ("back", -8, "c"), ("back", -1, "a"),
    ("swap", 1, "a", "b"), ("swap", 3, "b", "a"), ("swap", 2, "a", "b"), ("swap", 4, "a", "b"), ("swap", 3, "a", "B"),
    ("swap", 3, "A", "b"), ("swap", 5, "b", "d"), ("swap", 5, "b", "a"), ("swap", 8, "a", "b"), ("swap", 9, "a", "b"),
    ("swap", -5, "a", "b"), ("swap", -8, "a", "b"),
]

# What is no step, though these words stand there.
NO_STEPS_WORD = "aAaAbB"
NO_STEPS = [
    (), ("there",), ("back",), ("swap",), ("there", 0), ("back", 0), ("swap", 0), ("swap", 2, "a"),
    ("there", 0, "a", "a"), ("back", 0, "a", "a"), ("there", 0, "a", 0), ("swap", 2, "a", "b", "a"), ("there", "a"),
    ("swap", 2, "a", "b", 0), ("", 0, "a"), ("There", 0, "a"), ("THERE", 0, "a"), ("forth", 0, "a"), ("ther", 0, "a"),
    ("there ", 0, "a"), ("swaps", 2, "a", "b"), ("start",), ("turn", 0), ("part", 0, 0), ("a",), ("a", 0, "there"),
    ("there", "a", 0), ("there", "0", "a"), ("there", "", "a"), ("back", "0", "a"), ("swap", "2", "a", "b"),
    ("there", 0, 0), ("there", 0, 1), ("back", 0, 0), ("swap", 2, 0, "b"), ("swap", 2, "a", 1), ("swap", 2, 1, 1),
    ("there", False, "a"), ("back", False, "a"), ("there", True, "A"), ("back", True, "A"), ("swap", True, "A", "a"),
    ("swap", False, "a", "a"), ("there", 0, True), ("there", 0, False), ("swap", 2, "a", True), (0, 0, "a"),
    (True, 0, "a"), (0,), (0, "there", "a"),
    ("there", 0, ""), ("there", 6, ""), ("back", 0, ""), ("back", 6, ""), ("swap", 0, "", ""), ("swap", 2, "", "a"),
    ("swap", 2, "a", ""), ("swap", 6, "", ""), ("swap", 4, "b", ""), ("swap", 4, "", "b"),
    ("there", 0, "i"), ("there", 0, " "), ("there", 0, "aI"), ("there", 0, "-"), ("back", 0, "i"), ("back", 0, "a "),
    ("swap", 2, "i", "b"), ("swap", 2, "a", "i"), ("swap", 2, "a", "\n"), ("there", 0, "a" * 61), ("back", 0, "a" * 61),
    ("swap", 0, "a" * 61, "b"), ("swap", 2, "a", "b" * 61),
]


class SteppedTest(unittest.TestCase):

    def refused(self, word, step):
        with self.assertRaises(BadStep, msg=(word, step)) as caught:
            stepped(word, step)
        self.assertEqual(caught.exception.at, 0)
        self.assertEqual(caught.exception.word, "badstep")

    def test_where_it_fits(self):
        for word, step, answer in FITTING:
            self.assertEqual(stepped(word, step), answer, (word, step))

    def test_no_step_turns_what_a_word_does(self):
        for word, step, answer in FITTING:
            self.assertEqual(Track(answer), Track(word), (word, step))

    def test_beside_where_it_fits(self):
        for step in BESIDE:
            self.refused(BESIDE_WORD, step)

    def test_in_the_word_without_signs(self):
        for at in [-1, 0, 1]:
            for step in [("there", at, "a"), ("back", at, "a"), ("swap", at, "a", "b")]:
                self.refused("", step)

    def test_what_is_no_step(self):
        for step in NO_STEPS:
            self.refused(NO_STEPS_WORD, step)
            self.refused("", step)

    def test_at_each_place(self):
        word = "aAaAa"
        for at in range(-6, 8):
            for step, fits in [(("there", at, "a"), (0, 2, 4)), (("there", at, "A"), (1, 3)),
                               (("back", at, "a"), (0, 2)), (("back", at, "A"), (1,)),
                               (("swap", at, "a", "a"), (0,)), (("swap", at, "A", "A"), (1,)),
                               (("there", at, "aAa"), (0, 2)), (("swap", at, "a", "A"), ())]:
                if at in fits:
                    self.assertEqual(Track(stepped(word, step)), Track(word), step)
                else:
                    self.refused(word, step)

    def test_the_longest(self):
        self.assertEqual(stepped(LONG, ("there", 0, LONG)), LONG + "A" * 60 + LONG)
        self.assertEqual(stepped("aAa" * 20, ("back", 57, "a")), "aAa" * 19 + "a")
        self.refused(LONG, ("there", 0, "a" * 61))
        self.refused(LONG, ("there", 1, LONG))

    def test_bad_words(self):
        for text in ["i", "a i", "a" * 61, "aAa" * 21, "-", "aAaI"]:
            for step in [("there", 0, "a"), ("there", 0, "b"), (), ("odd",), ("there", 0, "i")]:
                with self.assertRaises(BadWord, msg=(text, step)):
                    stepped(text, step)

    def test_words_within_steps_are_not_words_that_are_handed_in(self):
        self.refused("a", ("there", 0, "i"))
        self.refused("a", ("there", 0, "a" * 61))

    def test_by_name(self):
        self.assertEqual(stepped(step=("there", 0, "a"), word="a"), "aAa")


class WalkedTest(unittest.TestCase):

    def refused(self, word, steps, at):
        with self.assertRaises(BadStep, msg=(word, steps)) as caught:
            walked(word, steps)
        self.assertEqual(caught.exception.at, at)

    def test_no_steps(self):
        for word in ["", "a", "aA", LONG]:
            self.assertEqual(walked(word, []), word)

    def test_one_step(self):
        for word, step, answer in FITTING:
            self.assertEqual(walked(word, [step]), answer, (word, step))

    def test_several(self):
        steps = [("swap", 0, "a", "b"), ("swap", 2, "a", "c"), ("there", 0, "b")]
        self.assertEqual(walked("aAbBcC", steps), "bBbBcCaA")
        self.assertEqual(walked("ab", [("there", 0, "ab"), ("there", 2, "BAab"), ("back", 2, "BAab")]), "abBAab")

    def test_each_step_is_done_on_the_word_as_it_is_then(self):
        self.assertEqual(walked("a", [("there", 0, "a"), ("there", 2, "a"), ("back", 0, "a"), ("back", 0, "a")]), "a")
        self.refused("a", [("back", 0, "a")], 0)
        self.refused("a", [("there", 0, "a"), ("back", 0, "a"), ("back", 0, "a")], 2)

    def test_the_number_of_the_first_that_cannot_be_done(self):
        fine = ("there", 0, "a")
        for wrong in [(), ("odd",), ("there", 0, "b"), ("there", -1, "a"), ("there", False, "a"), ("there", 0, "i")]:
            for many in range(4):
                self.refused("a", [fine] * many + [wrong], many)
                self.refused("a", [fine] * many + [wrong, fine], many)
                self.refused("a", [fine] * many + [wrong, wrong, ()], many)

    def test_what_is_no_step(self):
        for step in NO_STEPS:
            self.refused(NO_STEPS_WORD, [("swap", 2, "a", "b"), ("swap", 2, "b", "a"), step], 2)

    def test_the_ones_behind_are_not_looked_at(self):
        self.refused("a", [("there", 0, "a"), ("back", 1, "a"), 5, None], 1)

    def test_words_that_are_passed_may_be_long(self):
        steps = [("there", 0, LONG), ("there", 0, LONG), ("there", 60, "A" * 60)]
        self.assertEqual(walked(LONG, steps), (LONG + "A" * 60) * 3 + LONG)
        home = [("back", 60, "A" * 60), ("back", 0, LONG), ("back", 0, LONG)]
        self.assertEqual(walked(LONG, steps + home), LONG)
        self.assertEqual(walked(LONG, steps + [("swap", 0, LONG, LONG)]), (LONG + "A" * 60) * 3 + LONG)
        self.assertEqual(walked("ab" * 30, [("there", 59, "b")] * 200), "ab" * 30 + "Bb" * 200)

    def test_x_and_y_of_60_and_of_61_signs(self):
        ahead = [("there", 0, LONG), ("there", 0, LONG)]
        word = walked(LONG, ahead)
        self.assertEqual(word, (LONG + "A" * 60) * 2 + LONG)
        self.assertEqual(len(walked(LONG, ahead + [("there", 0, LONG)])), 420)
        self.assertEqual(len(walked(LONG, ahead + [("back", 0, LONG)])), 180)
        self.assertEqual(walked(LONG, ahead + [("swap", 0, LONG, LONG)]), word)
        # It stands there, but is no word.
        self.refused(LONG, ahead + [("there", 0, word[:61])], 2)

    def test_back_and_swap_of_61_signs_that_would_fit(self):
        ahead = [("there", 0, "b")] * 200
        word = walked("b", ahead)
        longer, fine = word[:61], word[:59]
        self.assertTrue(word.startswith((longer + naive.undone(longer)) * 2 + longer))
        for x, y in [(longer, longer), (longer, "b"), ("b", longer)]:
            self.refused("b", ahead + [("swap", 0, x, y)], 200)
        self.refused("b", ahead + [("back", 0, longer)], 200)
        for x, y in [(fine, fine), (fine, "b"), ("b", fine)]:
            self.assertEqual(walked("b", ahead + [("swap", 0, x, y)]), word)
        self.assertEqual(walked("b", ahead + [("back", 0, fine)]), word[118:])

    def test_bad_words_ahead_of_bad_steps(self):
        for text in ["i", "a" * 61, " "]:
            for steps in [[], [()], [("there", 0, "a")], [("odd",)]]:
                with self.assertRaises(BadWord):
                    walked(text, steps)

    def test_the_handed_list_is_not_changed(self):
        steps = [("there", 0, "a"), ("there", 0, "a")]
        walked("a", steps)
        self.assertEqual(steps, [("there", 0, "a"), ("there", 0, "a")])
        steps.append(("odd",))
        self.refused("a", steps, 2)
        self.assertEqual(steps, [("there", 0, "a"), ("there", 0, "a"), ("odd",)])

    def test_by_name(self):
        self.assertEqual(walked(steps=[("there", 0, "a")], word="a"), "aAa")


def some_words(many, most, seed):
    """Words that turn back often, of up to so many signs."""
    chance = random.Random(seed)
    for number in range(many):
        signs = ["aA", "aAbB", "aAbBcC", naive.RISING][number % 4]
        word = ""
        while len(word) < chance.randint(most // 2, most):
            word += naive.undone(word[-1]) if word and chance.random() < 0.3 else chance.choice(signs)
        yield word[:most]


class ToPlainTest(unittest.TestCase):

    def test_small_words(self):
        for word in naive.words_upto(6):
            self.assertEqual(walked(word, to_plain(word)), naive.plain(word), word)

    def test_long_words(self):
        for word in some_words(60, 60, 1):
            self.assertEqual(walked(word, to_plain(word)), naive.plain(word), word)

    def test_the_longest(self):
        for word in [LONG, "aA" * 30, "a" * 30 + "A" * 30, "ab" * 30, "aAbBcCdDeEfFgGhH" * 3, "abBA" * 15, "hH" * 30,
                     "".join(sign + naive.undone(sign) for sign in reversed(naive.RISING)) + "aA" * 14]:
            self.assertEqual(walked(word, to_plain(word)), naive.plain(word), word)

    def test_each_is_a_step_with_words_of_at_most_60_signs(self):
        for word in list(some_words(20, 60, 2)) + [LONG]:
            for step in to_plain(word):
                self.assertIs(type(step), tuple)
                self.assertIn((step[0], len(step)), [("there", 3), ("back", 3), ("swap", 4)])
                self.assertTrue(all(1 <= len(thing) <= 60 for thing in step[2:]), step)

    def test_its_own_plain_word(self):
        for word in ["", "aA", "aAa", "abBAab", "aAbB", "aAbBa", "BbcCaaAA"]:
            self.assertEqual(Track(word).plain(), word)
            self.assertEqual(walked(word, to_plain(word)), word)

    def test_a_new_list(self):
        to_plain("ab").append("odd")
        to_plain("").append("odd")
        self.assertEqual(walked("ab", to_plain("ab")), "abBAab")
        self.assertEqual(to_plain(""), [])
        self.assertIs(type(to_plain("abB")), list)

    def test_bad_words(self):
        for text in ["i", "a" * 61, "aA" * 31, "a b", "-"]:
            with self.assertRaises(BadWord):
                to_plain(text)

    def test_by_name(self):
        self.assertEqual(walked("a", to_plain(word="a")), "aAa")


class BetweenTest(unittest.TestCase):

    def leads(self, one, other):
        self.assertEqual(walked(one, between(one, other)), other, (one, other))
        self.assertEqual(walked(other, between(other, one)), one, (one, other))

    def test_one_track(self):
        for one, other in [("", ""), ("a", "a"), ("a", "aAa"), ("aA", "aAaA"), ("aAbB", "bBaA"), ("ab", "abBAab"),
                           ("abB", "abBbB"), ("AabBcC", "cCAabB"), ("aAb", "aAbBaAb"), ("abcCB", "abBbcCB"),
                           ("a" * 20 + "A" * 20, "a" * 10 + "A" * 10 + "a" * 20 + "A" * 20)]:
            self.leads(one, other)

    def test_same_spots_another_end(self):
        for one, other in [("a", "aA"), ("ab", "abB"), ("ab", "abBA"), ("abB", "abBA"), ("", "a"), ("aAb", "bBa")]:
            self.assertIsNone(between(one, other), (one, other))
            self.assertIsNone(between(other, one), (one, other))

    def test_same_end_other_spots(self):
        for one, other in [("", "aA"), ("aA", "Aa"), ("a", "abB"), ("aA", "aAbB"), ("aA", "bB"), ("ab", "aAbBab"),
                           ("aa", "aaaA"), ("b", "aAb")]:
            self.assertEqual(naive.reduced(one), naive.reduced(other))
            self.assertIsNone(between(one, other), (one, other))
            self.assertIsNone(between(other, one), (one, other))

    def test_just_where_they_have_one_track(self):
        words = list(naive.words_upto(3)) + ["aAbB", "bBaA", "AaaA", "aAAa", "abBA", "aAaAa", "abBAab", "aAbBaA"]
        for one, other in itertools.product(words, repeat=2):
            same = naive.spots(one) == naive.spots(other) and naive.reduced(one) == naive.reduced(other)
            steps = between(one, other)
            self.assertEqual(steps is not None, same, (one, other))
            if same:
                self.assertEqual(walked(one, steps), other, (one, other))

    def test_long_words(self):
        for word in some_words(40, 20, 3):
            plain = naive.plain(word)
            if len(plain) <= 60:
                self.leads(word, plain)
            self.leads(word, word + naive.undone(word) + word)

    def test_the_longest_words(self):
        one = "aAbBcCdDeEfFgGhH" * 3 + "AaBbCc" * 2
        other = "hHgGfFeEdDcCbBaA" * 3 + "CcBbAa" * 2
        self.assertEqual((len(one), len(other)), (60, 60))
        self.leads(one, other)

    def test_words_that_do_the_same_in_every_world(self):
        # [6]: where there are no steps, there is a world of the spots of both in which they part.
        words = ["", "a", "aA", "Aa", "ab", "abB", "aAb", "bBa", "abBA", "aAbB", "bBaA", "AaaA", "aaA", "abA", "aAa"]
        for one, other in itertools.product(words, repeat=2):
            spots = sorted({spot for word in (one, other) for spot in naive.spots(word)}, key=naive.rank)
            parted = False
            for word in (one, other):
                moves = {letter: {} for letter in "abcdefgh"}
                for spot in naive.spots(word)[1:]:
                    start, end = spots.index(naive.reduced(spot[:-1])), spots.index(spot)
                    small = spot[-1].islower()
                    moves[spot[-1].lower()][start if small else end] = end if small else start
                parted = parted or naive.goes(one, 0, moves) != naive.goes(other, 0, moves)
            self.assertEqual(between(one, other) is None, parted, (one, other))

    def test_a_new_list(self):
        between("a", "aAa").append("odd")
        self.leads("a", "aAa")
        self.assertIs(type(between("", "")), list)

    def test_bad_words(self):
        for text in ["i", "a" * 61, "a b", "-"]:
            for one, other in [(text, "a"), ("a", text), (text, text), ("b", text), (text, "")]:
                with self.assertRaises(BadWord, msg=(one, other)):
                    between(one, other)

    def test_by_name(self):
        self.assertEqual(walked("a", between(other="aAa", one="a")), "aAa")


if __name__ == "__main__":
    unittest.main()
