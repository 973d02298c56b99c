"""spoorfold.papers: the claims that steps of papers make, and what a paper shows."""

import random
import unittest

import naive
from spoorfold.errors import BadPaper, BadWord
from spoorfold.papers import claims, shows

NO_WORDS = ["i", "I", "a" * 61, "a b", "-", "a\n"]

FACTS = [("ab", "c"), ("c", ""), ("", "hH"), ("", "")]
LIKES = [("ab", "ba"), ("", "cC"), ("d", ""), ("", "")]

# Rows whose claims are all sorts of claims to go on from.
AHEAD = [("start",), ("fact", 0), ("fact", 1), ("fact", 2), ("turn", 1)]
AHEAD_CLAIMS = [("", ""), ("ab", "c"), ("c", ""), ("", "hH"), ("c", "ab")]

# A row that fits behind these, and its claim.
FITTING = [
    (("start",), ("", "")),
    (("fact", 0), ("ab", "c")),
    (("fact", 3), ("", "")),
    (("turn", 0), ("", "")),
    (("turn", 1), ("c", "ab")),
    (("turn", 3), ("hH", "")),
    (("turn", 4), ("ab", "c")),
    (("on", 0, 0), ("", "")),
    (("on", 0, 1), ("ab", "c")),
    (("on", 1, 2), ("ab", "")),
    (("on", 1, 4), ("ab", "ab")),
    (("on", 2, 1), ("cab", "c")),
    (("on", 2, 2), ("cc", "")),
    (("on", 2, 3), ("c", "hH")),
    (("on", 4, 1), ("c", "c")),
    (("home", 1), ("abB", "a")),
    (("home", 2), ("cC", "")),
    (("home", 4), ("cC", "")),
    (("like", 1, 0, True), ("ba", "c")),
    (("like", 0, 1, True), ("cC", "")),
    (("like", 1, 1, True), ("abcC", "c")),
    (("like", 0, 2, False), ("d", "")),
    (("like", 1, 2, False), ("abd", "c")),
    (("like", 1, 3, True), ("ab", "c")),
    (("like", 1, 3, False), ("ab", "c")),
    (("like", 3, 2, False), ("d", "hH")),
    (("part", 1, 0), ("", "")),
    (("part", 1, 1), ("a", "a")),
    (("part", 1, 2), ("ab", "ab")),
    (("part", 0, 0), ("", "")),
    (("part", 4, 1), ("c", "c")),
    (("part", 3, 0), ("", "")),
]

# Rows that do not fit behind these. There are 5 claims, 4 facts and 4 likenesses.
WRONG = [
    # Another word, or none.
    (), ("",), ("Start",), ("begin",), ("START",), ("start ",), ("facts", 0), ("there", 0, "a"), ("swap", 0), ("a", 0),
    (0,), (True,), (0, 0), ("ends",), ("on ", 0, 0),
    # Another count of things.
    ("start", 0), ("start", "start"), ("fact",), ("fact", 0, 0), ("turn",), ("turn", 0, 0), ("on",), ("on", 0),
    ("on", 0, 0, 0), ("home",), ("home", 1, 1), ("like",), ("like", 1), ("like", 1, 0), ("like", 1, 0, True, True),
    ("part",), ("part", 1), ("part", 1, 1, 1), ("start", True),
    # Numbers of no claim ahead: later ones, its own, below nought.
    ("turn", 5), ("turn", 6), ("turn", -1), ("turn", -5), ("turn", 10 ** 20), ("on", 5, 0), ("on", 0, 5), ("on", -1, 0),
    ("on", 0, -1), ("on", 2, -5), ("home", 5), ("home", -1), ("home", -4), ("like", 5, 3, True), ("like", -1, 3, True),
    ("part", 5, 0), ("part", -1, 0), ("part", -1, 1),
    # Of no fact, of no likeness.
    ("fact", 4), ("fact", 5), ("fact", -1), ("fact", -4), ("like", 1, 4, True), ("like", 1, 5, False),
    ("like", 1, -1, True), ("like", 1, -4, True), ("like", 1, 10 ** 20, True),
    # True, False, texts and None where a number is due.
    ("fact", True), ("fact", False), ("turn", True), ("turn", False), ("on", True, 4), ("on", 1, False),
    ("on", False, 0), ("on", 0, True), ("home", True), ("like", True, 0, True), ("like", 1, False, True),
    ("like", 0, True, True),
    ("part", True, 1), ("part", 1, True), ("part", 1, False), ("part", False, 0), ("turn", "1"), ("fact", "0"),
    ("part", 1, "1"), ("turn", None), ("fact", ""), ("turn", "start"),
    # forth as a number, or another thing.
    ("like", 1, 0, 1), ("like", 1, 3, 0), ("like", 1, 3, 1), ("like", 1, 3, "True"), ("like", 1, 3, None),
    ("like", 1, 3, ""), ("like", 1, 3, 2),
    # What does not fit.
    ("on", 1, 1), ("on", 1, 0), ("on", 3, 0), ("on", 3, 1), ("on", 4, 2), ("home", 0), ("home", 3),
    ("like", 1, 0, False), ("like", 2, 0, True), ("like", 0, 0, True), ("like", 0, 1, False), ("like", 1, 1, False),
    ("like", 1, 2, True), ("like", 4, 0, True), ("like", 0, 2, True),
    # many below nought and beyond the signs of the first word.
    ("part", 1, 3), ("part", 1, -1), ("part", 1, -2), ("part", 0, 1), ("part", 0, -1), ("part", 3, 1), ("part", 3, 2),
    ("part", 4, 2), ("part", 1, 10 ** 20),
]


class ClaimsTest(unittest.TestCase):

    def refused(self, facts, likenesses, rows, at):
        with self.assertRaises(BadPaper, msg=rows) as caught:
            claims(facts, likenesses, rows)
        self.assertEqual(caught.exception.at, at)
        self.assertEqual(caught.exception.word, "badpaper")

    def test_no_steps(self):
        self.assertEqual(claims([], [], []), [])
        self.assertEqual(claims(FACTS, LIKES, []), [])

    def test_where_it_fits(self):
        self.assertEqual(claims(FACTS, LIKES, AHEAD), AHEAD_CLAIMS)
        for row, claim in FITTING:
            self.assertEqual(claims(FACTS, LIKES, AHEAD + [row]), AHEAD_CLAIMS + [claim], row)

    def test_where_it_does_not(self):
        for row in WRONG:
            self.refused(FACTS, LIKES, AHEAD + [row], 5)

    def test_without_facts_and_likenesses(self):
        self.assertEqual(claims([], [], [("start",), ("turn", 0), ("part", 1, 0)]), [("", "")] * 3)
        self.refused([], LIKES, [("start",), ("fact", 0)], 1)
        self.refused(FACTS, [], [("start",), ("like", 0, 0, True)], 1)

    def test_the_first_step_names_no_claim(self):
        for row in [("turn", 0), ("on", 0, 0), ("home", 0), ("like", 0, 3, True), ("part", 0, 0), ("turn", -1)]:
            self.refused(FACTS, LIKES, [row], 0)

    def test_the_first_that_is_not_so(self):
        for many in range(4):
            for row in [(), ("turn", many), ("fact", 9), ("home", 0), ("odd",)]:
                rows = [("start",)] * many + [row]
                self.refused(FACTS, LIKES, rows, many)
                self.refused(FACTS, LIKES, rows + [("start",)], many)
                self.refused(FACTS, LIKES, rows + [(), ("odd",)], many)

    def test_on_where_t_has_signs(self):
        facts = [("ab", "c"), ("cdE", "f"), ("cdE", "")]
        rows = [("fact", 0), ("fact", 1), ("on", 0, 1), ("fact", 2), ("on", 0, 3), ("on", 4, 2)]
        self.assertEqual(claims(facts, [], rows)[2::2], [("abdE", "f"), ("abdE", "")])
        self.assertEqual(claims(facts, [], rows)[5], ("abdEabdE", "f"))

    def test_home_of_great_signs(self):
        facts = [("aB", "c"), ("B", "c")]
        rows = [("fact", 0), ("home", 0), ("home", 1), ("fact", 1), ("home", 3), ("home", 4)]
        self.assertEqual(claims(facts, [], rows), [("aB", "c"), ("aBb", "a"), ("aBbB", "aB"), ("B", "c"), ("Bb", ""),
                                                   ("BbB", "B")])

    def test_like_at_the_end_alone(self):
        likes = [("a", "b"), ("aa", "")]
        rows = [("fact", 0), ("like", 0, 0, True), ("like", 1, 0, False), ("like", 0, 1, True), ("like", 3, 1, False)]
        self.assertEqual(claims([("aaa", "")], likes, rows),
                         [("aaa", ""), ("aab", ""), ("aaa", ""), ("a", ""), ("aaa", "")])
        self.refused([("ab", "")], [("a", "c")], [("fact", 0), ("like", 0, 0, True)], 1)
        self.refused([("a", "")], [("aa", "c")], [("fact", 0), ("like", 0, 0, True)], 1)
        self.assertEqual(claims([("aa", "")], [("aa", "c")], [("fact", 0), ("like", 0, 0, True)])[1], ("c", ""))

    def test_part_at_each_number(self):
        facts = [("abC", "d")]
        for many in range(-4, 8):
            rows = [("fact", 0), ("part", 0, many)]
            if 0 <= many <= 3:
                self.assertEqual(claims(facts, [], rows)[1], ("abC"[:many], "abC"[:many]))
            else:
                self.refused(facts, [], rows, 1)

    def test_claims_of_more_than_60_signs(self):
        facts = [("a" * 60, "")]
        rows = [("fact", 0), ("on", 0, 0), ("on", 1, 1), ("turn", 2), ("home", 2), ("part", 2, 100), ("part", 2, 240)]
        self.assertEqual(claims(facts, [], rows), [("a" * 60, ""), ("a" * 120, ""), ("a" * 240, ""), ("", "a" * 240),
                                                   ("a" * 240 + "A", "a" * 239), ("a" * 100, "a" * 100),
                                                   ("a" * 240, "a" * 240)])
        self.refused(facts, [], rows + [("part", 2, 241)], 7)

    def test_many_steps(self):
        rows = [("fact", 0)] + [("turn", at) for at in range(99999)]
        told = claims([("a", "b")], [], rows)
        self.assertEqual(len(told), 100000)
        self.assertEqual(told[-1], ("b", "a"))
        self.refused([("a", "b")], [], rows[:-1] + [("turn", 99999)], 99999)

    def test_against_the_slow_way(self):
        chance = random.Random(1)
        kinds = ["start", "fact", "turn", "on", "home", "like", "part"]
        counts = {"start": 0, "fact": 1, "turn": 1, "on": 2, "home": 1, "like": 2, "part": 2}
        facts, likes = [("ab", "c"), ("", "a"), ("cC", "ab")], [("b", "Ba"), ("c", ""), ("ab", "c")]
        refused = 0
        for _ in range(3000):
            rows, ahead = [("fact", 0), ("start",)], [("ab", "c"), ("", "")]
            for at in range(2, 12):
                kind = chance.choice(kinds)
                row = (kind, *[chance.randint(-1, 4) for _ in range(counts[kind])])
                row += (chance.random() < 0.5,) if kind == "like" else ()
                claim = naive.claim(facts, likes, ahead, row)
                if claim is None:
                    refused += 1
                    self.refused(facts, likes, rows + [row], at)
                    break
                rows.append(row)
                ahead.append(claim)
            self.assertEqual(claims(facts, likes, rows), ahead, rows)
        self.assertTrue(500 < refused < 3000, refused)

    def test_claims_are_pairs(self):
        for claim in claims(FACTS, LIKES, AHEAD + [row for row, _ in FITTING]):
            self.assertIs(type(claim), tuple)
            self.assertEqual(len(claim), 2)

    def test_bad_words(self):
        for text in NO_WORDS:
            for facts, likes in [([(text, "a")], []), ([("a", text)], []), ([("a", "b"), ("a", text)], LIKES),
                                 ([], [(text, "a")]), ([], [("a", text)]), (FACTS, LIKES + [("", text)])]:
                for rows in [[], [("start",)], [()], [("odd",)], [("start",), ("turn", 1)]]:
                    with self.assertRaises(BadWord, msg=(facts, likes, rows)):
                        claims(facts, likes, rows)

    def test_what_is_handed_in_stays(self):
        facts, likes, rows = list(FACTS), list(LIKES), AHEAD + [("like", 1, 0, True)]
        told = claims(facts, likes, rows)
        self.assertEqual((facts, likes, rows), (FACTS, LIKES, AHEAD + [("like", 1, 0, True)]))
        facts.clear()
        likes.clear()
        rows.clear()
        self.assertEqual(told, AHEAD_CLAIMS + [("ba", "c")])

    def test_a_new_list(self):
        rows = list(AHEAD)
        claims(FACTS, LIKES, rows).clear()
        self.assertEqual(claims(FACTS, LIKES, rows), AHEAD_CLAIMS)

    def test_by_name(self):
        self.assertEqual(claims(rows=[("fact", 0)], likenesses=[], facts=[("a", "b")]), [("a", "b")])


class ShowsTest(unittest.TestCase):

    def test_its_last_claim(self):
        for row, (one, other) in FITTING:
            rows = AHEAD + [row]
            self.assertIs(shows(FACTS, LIKES, rows, one, other), True, row)
            self.assertIs(shows(FACTS, LIKES, rows, one + "h", other), False, row)
            self.assertIs(shows(FACTS, LIKES, rows, one, other + "h"), False, row)
            self.assertIs(shows(FACTS, LIKES, rows, other, one), one == other, row)

    def test_a_claim_that_is_not_the_last(self):
        self.assertIs(shows(FACTS, LIKES, AHEAD, "ab", "c"), False)
        self.assertIs(shows(FACTS, LIKES, AHEAD, "c", "ab"), True)
        self.assertIs(shows(FACTS, LIKES, AHEAD[:2], "ab", "c"), True)

    def test_no_steps(self):
        self.assertIs(shows([], [], [], "", ""), False)
        self.assertIs(shows(FACTS, LIKES, [], "ab", "c"), False)

    def test_what_is_no_paper(self):
        for row in WRONG:
            self.assertIs(shows(FACTS, LIKES, AHEAD + [row], "c", "ab"), False, row)
            self.assertIs(shows(FACTS, LIKES, AHEAD + [row, ("start",)], "", ""), False, row)

    def test_words_are_not_reduced(self):
        self.assertIs(shows([("aA", "")], [], [("fact", 0)], "aA", ""), True)
        self.assertIs(shows([("aA", "")], [], [("fact", 0)], "", ""), False)

    def test_claims_of_more_than_60_signs_on_the_way(self):
        rows = [("fact", 0), ("on", 0, 0), ("on", 1, 1), ("part", 2, 60)]
        self.assertIs(shows([("a" * 60, "")], [], rows, "a" * 60, "a" * 60), True)
        self.assertIs(shows([("a" * 60, "")], [], rows[:3], "a" * 60, ""), False)

    def test_bad_words(self):
        for text in NO_WORDS:
            for facts, likes, one, other in [([(text, "a")], [], "", ""), ([("a", text)], [], "", ""),
                                             ([], [(text, "a")], "", ""), ([], [("a", text)], "", ""),
                                             ([], [], text, ""), ([], [], "", text), ([], [], text, text)]:
                for rows in [[], [("start",)], [()], [("odd",)]]:
                    with self.assertRaises(BadWord, msg=(facts, likes, one, other)):
                        shows(facts, likes, rows, one, other)

    def test_what_is_handed_in_stays(self):
        facts, likes, rows = list(FACTS), list(LIKES), list(AHEAD)
        shows(facts, likes, rows, "c", "ab")
        shows(facts, likes, rows, "c", "")
        self.assertEqual((facts, likes, rows), (FACTS, LIKES, AHEAD))

    def test_by_name(self):
        self.assertIs(shows(other="b", one="a", rows=[("fact", 0)], likenesses=[], facts=[("a", "b")]), True)


if __name__ == "__main__":
    unittest.main()
