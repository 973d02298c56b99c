"""spoorfold.verdicts: whether a claim follows, and whether two words are alike."""

import random
import unittest

import naive
from spoorfold.errors import BadRounds, BadWord
from spoorfold.papers import shows
from spoorfold.verdicts import alike, beneath, judge
from spoorfold.webs import Web
from spoorfold.worlds import World

NO_WORDS = ["i", "I", "a" * 61, "a b", "-", "a\n"]
NO_ROUNDS = [-1, 21, 22, 1000, True, False, None, "6", "", [], (6,), 2.0]

# Each place gets a place behind it by a, one more with each round.
TAIL = [("", "aA")]
# What b leads to gets one more place behind it with each round; nothing else does.
LONGER = [("b", "bbB")]
CHAIN = [("a", "b"), ("b", "c"), ("c", "d"), ("d", "e")]


def some_inputs(many, seed):
    """Two words, likenesses, rounds."""
    chance = random.Random(seed)
    for _ in range(many):
        signs = chance.choice(["ab", "aAbB", "abc", "aAbBcC"])

        def word(most):
            return "".join(chance.choice(signs) for _ in range(chance.randint(0, most)))
        likes = [(word(3), word(3)) for _ in range(chance.randint(0, 3))]
        yield word(4), word(4), likes, chance.choice([0, 1, 2, 6, 20])


class JudgeTest(unittest.TestCase):

    def test_follows(self):
        for facts, likes, one, other in [
            ([], [], "", ""),
            ([("ab", "c")], [], "ab", "c"),
            ([("ab", "c")], [], "c", "ab"),
            ([("ab", "c")], [], "cB", "a"),
            ([("ab", "c")], [("b", "d")], "ad", "c"),
            ([("a", "b"), ("b", "c")], [], "aA", "cA"),
            ([], [("", "a")], "aaa", "A"),
            ([("a", "a")], [("a", "bc")], "bcC", "b"),
        ]:
            verdict = judge(facts, likes, one, other)
            self.assertIs(type(verdict), tuple)
            self.assertEqual((len(verdict), verdict[0], type(verdict[1])), (2, "follows", list))
            self.assertIs(shows(facts, likes, verdict[1], one, other), True, (facts, likes, one, other))

    def test_fails(self):
        for facts, likes, one, other, world in [
            ([], [], "a", "a", World(1, [])),
            ([], [], "a", "", World(1, [])),
            ([("ab", "c")], [], "a", "b", World(3, [("a", 0, 1), ("c", 0, 2), ("b", 1, 2)])),
            ([("ab", "c")], [], "a", "c", World(3, [("a", 0, 1), ("c", 0, 2), ("b", 1, 2)])),
            ([("ab", "c")], [], "d", "d", World(3, [("a", 0, 1), ("c", 0, 2), ("b", 1, 2)])),
            ([("A", "A")], [("A", "b")], "a", "B", World(2, [("a", 1, 0), ("b", 0, 1)])),
        ]:
            self.assertEqual(judge(facts, likes, one, other), ("fails", world), (facts, likes, one, other))
            self.assertEqual(world.seen(), world)

    def test_open(self):
        for rounds in range(21):
            many = World(rounds + 1, [("a", place, place + 1) for place in range(rounds)])
            self.assertEqual(judge([], TAIL, "b", "b", rounds=rounds), ("open", many))
            self.assertEqual(judge([], TAIL, "a" * (rounds + 1), "b", rounds=rounds), ("open", many))
        self.assertEqual(judge([], TAIL, "b", "b"), ("open", Web([], TAIL, rounds=6).world()))

    def test_follows_though_the_web_is_not_closed(self):
        for rounds in [1, 6, 20]:
            kind, paper = judge([], TAIL, "aA", "", rounds=rounds)
            self.assertEqual(kind, "follows")
            self.assertIs(shows([], TAIL, paper, "aA", ""), True)

    def test_rounds(self):
        facts = [("a", "a")]
        for rounds, kind in [(0, "open"), (1, "open"), (2, "open"), (3, "follows"), (4, "follows"), (20, "follows")]:
            self.assertEqual(judge(facts, CHAIN, "a", "d", rounds=rounds)[0], kind, rounds)
        for rounds, kind in [(0, "open"), (3, "open"), (4, "fails"), (20, "fails")]:
            self.assertEqual(judge(facts, CHAIN, "a", "f", rounds=rounds)[0], kind, rounds)
        self.assertEqual(judge(facts, CHAIN, "a", "e")[0], "follows")
        self.assertEqual(judge(facts, CHAIN, "a", "f")[0], "fails")
        self.assertEqual(judge(facts, [], "a", "b", rounds=0)[0], "fails")

    def test_against_the_slow_way(self):
        kinds = set()
        for one, other, likes, rounds in some_inputs(400, 1):
            facts = [(other, one + other), ("ab", "bA")]
            slow = naive.Web(facts, likes, rounds)
            ends = [naive.led(word, 0, slow.moves) for word in (one, other)]
            kind = "follows" if ends[0] is not None and ends[0] == ends[1] else "fails" if slow.closed() else "open"
            verdict = judge(facts, likes, one, other, rounds=rounds)
            self.assertEqual(verdict[0], kind, (facts, likes, one, other, rounds))
            if kind == "follows":
                self.assertIs(shows(facts, likes, verdict[1], one, other), True)
            else:
                self.assertEqual(verdict[1], Web(facts, likes, rounds=rounds).world())
                self.assertEqual(verdict[1].breaks(likes) is None, kind == "fails")
            kinds.add(kind)
        self.assertEqual(kinds, {"follows", "fails", "open"})

    def test_bad_words(self):
        for text in NO_WORDS:
            for rounds in [6, -1, True]:
                for things in [([(text, "a")], [], "a", "b"), ([("a", text)], [], "a", "b"),
                               ([], [(text, "a")], "a", "b"), ([], [("a", "b"), ("a", text)], "a", "b"),
                               ([], [], text, "a"), ([], [], "a", text), ([("a", "b")], TAIL, "h", text)]:
                    with self.assertRaises(BadWord, msg=things):
                        judge(*things, rounds=rounds)

    def test_bad_rounds(self):
        for rounds in NO_ROUNDS:
            with self.assertRaises(BadRounds, msg=rounds) as caught:
                judge([], [], "", "", rounds=rounds)
            self.assertEqual(caught.exception.word, "badrounds")

    def test_by_name(self):
        named = judge(other="c", one="ab", likenesses=[], facts=[("ab", "c")], rounds=2)
        self.assertEqual(named, judge([("ab", "c")], [], "ab", "c"))
        with self.assertRaises(TypeError):
            judge([], [], "", "", 6)

    def test_handed_lists_and_told_ones(self):
        facts, likes = [("ab", "c")], [("b", "d")]
        paper = judge(facts, likes, "ad", "c")[1]
        self.assertEqual((facts, likes), ([("ab", "c")], [("b", "d")]))
        again = list(paper)
        paper.clear()
        self.assertEqual(judge(facts, likes, "ad", "c"), ("follows", again))


class BeneathTest(unittest.TestCase):

    def test_ordinary(self):
        self.assertEqual(beneath("aA", "", [])[0], "follows")
        self.assertEqual(beneath("", "aA", []), ("fails", World(1, [])))
        self.assertEqual(beneath("a", "b", []), ("fails", World(2, [("a", 0, 1)])))
        self.assertEqual(beneath("a", "b", [("a", "b")])[0], "follows")
        self.assertEqual(beneath("b", "a", LONGER)[0], "open")
        self.assertEqual(beneath("a", "a", [])[0], "follows")
        self.assertEqual(beneath("", "", [])[0], "follows")
        self.assertEqual(beneath("", "aaa", [("", "a")])[0], "follows")

    def test_is_judge_of_the_word_beside_itself(self):
        kinds = set()
        for one, other, likes, rounds in some_inputs(300, 2):
            verdict = beneath(one, other, likes, rounds=rounds)
            self.assertEqual(verdict, judge([(one, one)], likes, one, other, rounds=rounds))
            if verdict[0] == "follows":
                self.assertIs(shows([(one, one)], likes, verdict[1], one, other), True)
            kinds.add(verdict[0])
        self.assertEqual(kinds, {"follows", "fails", "open"})

    def test_rounds(self):
        for rounds, kind in [(0, "open"), (1, "open"), (2, "open"), (3, "follows"), (20, "follows")]:
            self.assertEqual(beneath("a", "d", CHAIN, rounds=rounds)[0], kind)
        self.assertEqual(beneath("", "b", TAIL), ("open", Web([], TAIL, rounds=6).world()))

    def test_refusals(self):
        for text in NO_WORDS:
            for rounds in [6, 21, False]:
                for things in [(text, "a", []), ("a", text, []), ("a", "b", [(text, "")]), ("a", "b", [("", text)])]:
                    with self.assertRaises(BadWord, msg=things):
                        beneath(*things, rounds=rounds)
        for rounds in NO_ROUNDS:
            with self.assertRaises(BadRounds, msg=rounds):
                beneath("a", "a", [], rounds=rounds)

    def test_by_name(self):
        self.assertEqual(beneath(likenesses=TAIL, other="", one="aA", rounds=1)[0], "follows")
        with self.assertRaises(TypeError):
            beneath("a", "a", [], 6)

    def test_handed_lists(self):
        likes = [("b", "d")]
        beneath("b", "d", likes)
        self.assertEqual(likes, [("b", "d")])


class AlikeTest(unittest.TestCase):

    def need_alike(self, one, other, likes, rounds=6):
        verdict = alike(one, other, likes, rounds=rounds)
        self.assertIs(type(verdict), tuple)
        self.assertEqual((len(verdict), verdict[0]), (3, "alike"), (one, other, likes, rounds))
        self.assertEqual([type(paper) for paper in verdict[1:]], [list, list])
        self.assertIs(shows([(one, one)], likes, verdict[1], one, other), True)
        self.assertIs(shows([(other, other)], likes, verdict[2], other, one), True)

    def need_unlike(self, one, other, likes, number, rounds=6):
        kind, told, world = verdict = alike(one, other, likes, rounds=rounds)
        self.assertEqual(verdict, ("unlike", number, Web([([one, other][number],) * 2], likes, rounds=rounds).world()))
        self.assertIs(type(told), int)
        self.assertIsNone(world.breaks(likes))
        self.assertEqual(world.seen(), world)
        ends = [world.go(one), world.go(other)]
        self.assertIsNotNone(ends[number])
        self.assertNotEqual(ends[0], ends[1])

    def test_alike(self):
        for one, other, likes in [
            ("", "", []), ("ab", "ab", []), ("aAbB", "bBaA", []), ("a", "aAa", []),
            ("a", "b", [("a", "b")]), ("b", "a", [("a", "b")]), ("cac", "cbc", [("a", "b")]),
            ("", "aaaa", [("", "a")]), ("abab", "", [("", "a"), ("b", "")]),
            ("ab", "ba", [("ab", "ba")]), ("aabb", "bbaa", [("ab", "ba")]),
            ("", "A", [("", "abB")]), ("aA", "", TAIL), ("bbbBB", "b", LONGER * 2),
        ]:
            self.need_alike(one, other, likes)
            self.need_alike(other, one, likes)

    def test_a_word_beside_itself(self):
        for word in ["", "a", "aA", "abABc", "ab" * 30]:
            for likes in [[], TAIL, LONGER, CHAIN]:
                for rounds in [0, 1, 6, 20]:
                    self.need_alike(word, word, likes, rounds)

    def test_unlike_by_number_0(self):
        self.assertEqual(alike("a", "b", []), ("unlike", 0, World(2, [("a", 0, 1)])))
        for one, other, likes in [("", "a", []), ("a", "", []), ("a", "A", [("b", "a")]), ("", "Cc", [("", "")]),
                                  ("a", "b", LONGER), ("", "Bb", [("B", "bA")]), ("a", "aa", [("aaa", "")])]:
            self.need_unlike(one, other, likes, 0)

    def test_unlike_by_number_1(self):
        self.assertEqual(alike("aA", "", []), ("unlike", 1, World(1, [])))
        for one, other, likes in [("aAb", "b", []), ("b", "a", LONGER), ("Aa", "", [("a", "bA")]),
                                  ("abBA", "aA", [("a", "c")])]:
            self.need_unlike(one, other, likes, 1)

    def test_open(self):
        for one, other, likes in [("b", "bb", LONGER), ("", "b", TAIL), ("", "Aa", [("", "bA")]),
                                  ("ba", "", [("BA", "")]), ("c", "", [("bc", "")])]:
            self.assertEqual(alike(one, other, likes), ("open",))

    def test_one_web_closed_and_the_other_one_not(self):
        # Each time one web is closed; what counts is whether the words part in it.
        likes = [("bc", "b"), ("cB", "Bab"), ("ACc", "")]
        first, second = Web([("aB", "aB")], likes), Web([("A", "A")], likes)
        self.assertEqual((first.closed(), second.closed()), (True, False))
        self.assertEqual(first.go("aB"), first.go("A"))
        self.assertEqual(alike("aB", "A", likes), ("open",))
        self.assertEqual(alike("A", "aB", likes), ("open",))
        self.need_unlike("a", "b", LONGER, 0)
        self.need_unlike("b", "a", LONGER, 1)

    def test_rounds(self):
        self.need_alike("aAbB", "bBaA", TAIL, 0)
        self.need_unlike("a", "b", [], 0, 0)
        for rounds in [0, 1, 2]:
            self.assertEqual(alike("a", "d", CHAIN, rounds=rounds), ("open",))
        for rounds in [3, 4, 20]:
            self.need_alike("a", "d", CHAIN, rounds)
        self.need_unlike("a", "f", CHAIN, 1, 0)
        self.need_unlike("a", "f", CHAIN, 1, 3)
        self.need_unlike("a", "f", CHAIN, 0, 4)
        self.assertEqual(alike("", "a" * 7 + "A" * 7, TAIL), ("open",))
        self.need_alike("", "a" * 6 + "A" * 6, TAIL)
        self.need_alike("", "a" * 20 + "A" * 20, TAIL, 20)

    def test_against_the_slow_way(self):
        kinds = set()
        for one, other, likes, rounds in some_inputs(500, 3):
            webs = [naive.Web([(word, word)], likes, rounds) for word in (one, other)]
            meets = [naive.led(one, 0, web.moves) == naive.led(other, 0, web.moves) for web in webs]
            parted = [number for number in (0, 1) if webs[number].closed() and not meets[number]]
            if all(meets):
                self.need_alike(one, other, likes, rounds)
            elif parted:
                self.need_unlike(one, other, likes, parted[0], rounds)
            else:
                self.assertEqual(alike(one, other, likes, rounds=rounds), ("open",))
            kinds.add("alike" if all(meets) else (parted + ["open"])[0])
        self.assertEqual(kinds, {"alike", 0, 1, "open"})

    def test_without_likenesses_words_of_one_track_are_alike(self):
        words = list(naive.words_upto(3))
        for one in words:
            for other in words[::3]:
                same = naive.spots(one) == naive.spots(other) and naive.reduced(one) == naive.reduced(other)
                self.assertEqual(alike(one, other, [])[0], "alike" if same else "unlike", (one, other))

    def test_refusals(self):
        for text in NO_WORDS:
            for rounds in [6, -1, True]:
                for things in [(text, "a", []), ("a", text, []), (text, text, []), ("a", "b", [(text, "")]),
                               ("a", "b", [("a", "b"), ("", text)])]:
                    with self.assertRaises(BadWord, msg=things):
                        alike(*things, rounds=rounds)
        for rounds in NO_ROUNDS:
            with self.assertRaises(BadRounds, msg=rounds):
                alike("a", "a", [], rounds=rounds)

    def test_by_name(self):
        self.assertEqual(alike(likenesses=[], other="b", one="a", rounds=1), alike("a", "b", []))
        with self.assertRaises(TypeError):
            alike("a", "b", [], 6)

    def test_handed_lists_and_told_ones(self):
        likes = [("a", "b")]
        first = alike("a", "b", likes)
        self.assertEqual(likes, [("a", "b")])
        again = (first[0], list(first[1]), list(first[2]))
        first[1].clear()
        first[2].clear()
        self.assertEqual(alike("a", "b", likes), again)

    def test_long_words_by_many_likenesses(self):
        likes = [(letter * many, letter.upper() * (12 - many)) for many in (1, 2, 3) for letter in "abcdefgh"]
        for one, other in [("abcdefgh" * 7, "hgfedcba" * 7), ("a" * 60, "b" * 60), ("a" * 60, "a" * 48)]:
            kind, *rest = alike(one, other, likes, rounds=20)
            if kind == "alike":
                self.need_alike(one, other, likes, 20)
            elif kind == "unlike":
                self.need_unlike(one, other, likes, rest[0], 20)


if __name__ == "__main__":
    unittest.main()
