"""spoorfold.webs: webs of facts, laid on by likenesses round by round, with papers for what holds at the start."""

import itertools
import random
import unittest

import naive
from spoorfold.errors import BadRounds, BadWord
from spoorfold.papers import claims, shows
from spoorfold.webs import MOST_LAID, MOST_ROUNDS, ROUNDS, Web
from spoorfold.worlds import World

NO_WORDS = ["i", "I", "a" * 61, "a b", "-", "a\n"]
NO_ROUNDS = [-1, 21, 22, 1000, -20, True, False, None, "6", "", [], (6,), 2.0]

# Each place gets a place behind it by a, one more with each round.
TAIL = [("", "aA")]
# Each place gets two, one by a and one by b.
TREE = [("", "aAbB")]
# The turnings of a triangle, of a cube, and of five things that are there or not.
THREE = [("aa", ""), ("bbb", ""), ("abab", "")]
CUBE = [("aa", ""), ("bbb", ""), ("abababab", "")]
FIVE = [(letter * 2, "") for letter in "abcde"] + [(x + y, y + x) for x, y in itertools.combinations("abcde", 2)]


def told(web):
    return (web.closed(), web.rounds(), len(web), web.world().moves(), repr(web.world()))


def slow_world(web):
    """The world of a slow web, seen from its start."""
    places = sorted(naive.places_of(web.moves))
    numbers = {place: number for number, place in enumerate(places)}
    return World(len(places), [(letter, numbers[start], numbers[end]) for letter, start, end in web.moves]).seen(0)


def walk_in(world, many, chance):
    """A word that leads from place 0 somewhere, and where."""
    word, place = "", 0
    for _ in range(many):
        signs = [sign for sign in naive.RISING if world.go(sign, place) is not None]
        if not signs:
            break
        word += chance.choice(signs)
        place = world.go(word[-1], place)
    return word, place


def some_inputs(many, seed, most_fact=8, most_like=4, letters=("aA", "aAbB", "ab", "aAbBcC")):
    """Facts, likenesses, rounds."""
    chance = random.Random(seed)
    for _ in range(many):
        signs = chance.choice(letters)

        def word(most):
            return "".join(chance.choice(signs) for _ in range(chance.randint(0, most)))
        long, wide = chance.randint(1, most_fact), chance.randint(1, most_like)
        facts = [(word(long), word(long)) for _ in range(chance.randint(0, 3))]
        likes = [(word(wide), word(wide)) for _ in range(chance.randint(0, 4))]
        yield facts, likes, chance.choice([0, 1, 2, 6, 20])


class FactsTest(unittest.TestCase):

    def test_the_numbers_told(self):
        self.assertEqual((ROUNDS, MOST_ROUNDS, MOST_LAID), (6, 20, 60))

    def test_no_facts(self):
        web = Web([], [])
        self.assertEqual(told(web), (True, 0, 1, [], "World(1 places, 0 moves)"))
        self.assertEqual(web.go(""), 0)
        self.assertIsNone(web.go("a"))
        self.assertIsNone(web.paper("a", "a"))
        self.assertIs(shows([], [], web.paper("", ""), "", ""), True)

    def test_ordinary(self):
        for facts, world in [
            ([("", "")], World(1, [])),
            ([("a", "")], World(1, [("a", 0, 0)])),
            ([("", "A")], World(1, [("a", 0, 0)])),
            ([("a", "a")], World(2, [("a", 0, 1)])),
            ([("A", "A")], World(2, [("a", 1, 0)])),
            ([("a", "b")], World(2, [("a", 0, 1), ("b", 0, 1)])),
            ([("aA", "")], World(2, [("a", 0, 1)])),
            ([("aA", "aA")], World(2, [("a", 0, 1)])),
            ([("aaa", "")], World(3, [("a", 0, 1), ("a", 1, 2), ("a", 2, 0)]).seen()),
            ([("ab", "ba")], World(4, [("a", 0, 1), ("b", 1, 3), ("b", 0, 2), ("a", 2, 3)]).seen()),
            ([("ab", "ac")], World(3, [("a", 0, 1), ("b", 1, 2), ("c", 1, 2)])),
            ([("ab", "cb")], World(3, [("a", 0, 1), ("c", 0, 1), ("b", 1, 2)]).seen()),
            ([("abB", "c")], World(3, [("a", 0, 1), ("c", 0, 1), ("b", 1, 2)]).seen()),
        ]:
            web = Web(facts, [])
            self.assertEqual(web.world(), world, facts)
            self.assertEqual(told(web)[:3], (True, 0, len(world)))

    def test_folding_that_makes_the_next_folding(self):
        # aa and aaa come home: so does a. Each of these is known only when the one ahead is folded.
        self.assertEqual(Web([("aa", ""), ("aaa", "")], []).world(), World(1, [("a", 0, 0)]))
        self.assertEqual(Web([("a" * 21, ""), ("a" * 34, "")], []).world(), World(1, [("a", 0, 0)]))
        self.assertEqual(len(Web([("a" * 24, ""), ("a" * 36, "")], [])), 12)
        # b and c lead from the start to one place; so dd and ee do, and then f and g.
        facts = [("bd", "bd"), ("ce", "ce"), ("df", "df"), ("bd", "ce"), ("b", "c"), ("bdf", "bdf"), ("ceg", "ceg")]
        web = Web(facts + [("bdf", "ceg")], [])
        self.assertEqual(web.go("bdf"), web.go("bdg"))
        self.assertEqual(web.go("ceg"), web.go("cdf"))
        self.assertIs(shows(facts + [("bdf", "ceg")], [], web.paper("bdg", "cef"), "bdg", "cef"), True)

    def test_more_than_60_places(self):
        for many in [59, 60]:
            self.assertEqual(len(Web([("a" * many, "a" * many)], [])), many + 1)
        facts = [("a" * 60, "b" * 60), ("c" * 60, "d" * 60), ("ef" * 30, "gh" * 30)]
        web = Web(facts, [])
        self.assertEqual(told(web)[:3], (True, 0, 1 + 3 * 119))
        self.assertEqual(web.go("a" * 60), web.go("b" * 60))
        self.assertIs(shows(facts, [], web.paper("c" * 60, "d" * 60), "c" * 60, "d" * 60), True)

    def test_facts_hold_at_the_start(self):
        for facts, likes, rounds in some_inputs(100, 1):
            web = Web(facts, likes, rounds=rounds)
            for one, other in facts:
                self.assertIsNotNone(web.go(one))
                self.assertEqual(web.go(one), web.go(other))


class RoundsTest(unittest.TestCase):

    def test_no_likenesses(self):
        for rounds in [0, 1, 20]:
            self.assertEqual(told(Web([("ab", "c")], [], rounds=rounds))[:3], (True, 0, 3))

    def test_one_more_place_with_each_round(self):
        for rounds in range(21):
            web = Web([], TAIL, rounds=rounds)
            moves = [("a", place, place + 1) for place in range(rounds)]
            self.assertEqual(told(web)[:4], (False, rounds, rounds + 1, moves))

    def test_rounds_left_out(self):
        self.assertEqual(told(Web([], TAIL)), told(Web([], TAIL, rounds=6)))
        self.assertEqual(Web([], TAIL).rounds(), 6)

    def test_rounds_0(self):
        web = Web([("a", "b")], [("a", "c")], rounds=0)
        self.assertEqual(told(web)[:3], (False, 0, 2))
        self.assertIsNone(web.go("c"))
        web = Web([("a", "b")], [("a", "b")], rounds=0)
        self.assertEqual(told(web)[:3], (True, 0, 2))

    def test_a_round(self):
        # Not from c on, for that wasn't there when the round began.
        web = Web([("a", "a")], [("a", "c"), ("c", "d")], rounds=1)
        self.assertEqual(web.world(), World(2, [("a", 0, 1), ("c", 0, 1)]))
        self.assertEqual(told(web)[:2], (False, 1))
        web = Web([("a", "a")], [("c", "d"), ("a", "c")], rounds=1)
        self.assertEqual(web.world(), World(2, [("a", 0, 1), ("c", 0, 1)]))
        web = Web([("a", "a")], [("a", "c"), ("c", "d")], rounds=2)
        self.assertEqual(web.world(), World(2, [("a", 0, 1), ("c", 0, 1), ("d", 0, 1)]))
        self.assertEqual(told(web)[:2], (True, 2))

    def test_either_way_about(self):
        for likes in [[("a", "bc")], [("bc", "a")]]:
            web = Web([("a", "a")], likes, rounds=1)
            self.assertEqual(web.world(), World(3, [("a", 0, 1), ("b", 0, 2), ("c", 2, 1)]))
            web = Web([("bc", "bc")], likes, rounds=1)
            self.assertEqual(web.world(), World(3, [("b", 0, 2), ("c", 2, 1), ("a", 0, 1)]).seen())

    def test_from_each_place(self):
        web = Web([("aab", "aab")], [("a", "c"), ("b", "B")], rounds=1)
        self.assertEqual(web.world(), World(4, [("a", 0, 1), ("a", 1, 2), ("c", 0, 1), ("c", 1, 2), ("b", 2, 3),
                                               ("b", 3, 2)]).seen())

    def test_an_empty_side(self):
        for likes in [[("a", "")], [("", "a")]]:
            self.assertEqual(told(Web([], likes))[:4], (True, 1, 1, [("a", 0, 0)]))
            self.assertEqual(told(Web([("ba", "c")], likes))[:3], (True, 1, 2))
            self.assertEqual(Web([("aaaa", "b")], likes).world(), World(1, [("a", 0, 0), ("b", 0, 0)]))
        self.assertEqual(told(Web([("ab", "c")], [("", "")]))[:3], (True, 0, 3))
        for facts in [[], [("ab", "c")]]:
            web = Web(facts, [("a", ""), ("", "b")])
            self.assertIs(shows(facts, [("a", ""), ("", "b")], web.paper("abAB", "Bab"), "abAB", "Bab"), True)

    def test_closed_ahead_of_the_told_rounds(self):
        for likes, rounds, places in [(THREE, 2, 6), (CUBE, 3, 24), (FIVE, 5, 32)]:
            for more in [rounds, rounds + 1, 20]:
                self.assertEqual(told(Web([], likes, rounds=more))[:3], (True, rounds, places))
            self.assertIs(Web([], likes, rounds=rounds - 1).closed(), False)
            world = Web([], likes, rounds=20).world()
            self.assertIsNone(world.breaks(likes))
            self.assertIs(world.is_whole(world.letters()), True)

    def test_a_round_behind_which_there_are_60_places(self):
        for signs, rounds in [(57, 2), (58, 1), (59, 0)]:
            web = Web([("a" * signs, "a" * signs)], TAIL, rounds=20)
            self.assertEqual(told(web)[:3], (False, rounds, 60))
        web = Web([("a" * 58, "a" * 58)], TAIL, rounds=1)
        self.assertEqual(told(web)[:3], (False, 1, 60))

    def test_a_round_behind_which_there_would_be_more_is_not_laid(self):
        web = Web([], TREE, rounds=20)
        self.assertEqual(told(web)[:3], (False, 4, 31))
        self.assertEqual(told(web), told(Web([], TREE, rounds=4)))
        web = Web([("a" * 60, "a" * 60)], TAIL, rounds=20)
        self.assertEqual(told(web)[:4], (False, 0, 61, Web([("a" * 60, "a" * 60)], []).world().moves()))
        self.assertIsNone(web.paper("a" * 60, "a" * 59))

    def test_a_round_that_leaves_fewer(self):
        # There are more than 60 places, but no more than 60 behind the round.
        for likes, places in [([("a", "")], 1), ([("aa", "")], 2), ([("a" * 12, "")], 12)]:
            web = Web([("a" * 60, "a" * 60)], likes, rounds=20)
            self.assertEqual(told(web)[:3], (True, 1, places))
        likes = [("a", ""), ("b", ""), ("c", "d")]
        web = Web([("a" * 60, "b" * 60), ("c" * 59, "d" * 59)], likes, rounds=1)
        self.assertEqual(told(web)[:3], (True, 1, 60))
        web = Web([("a" * 60, "b" * 60), ("c" * 60, "d" * 60)], likes, rounds=1)
        self.assertEqual(told(web)[:3], (False, 0, 239))

    def test_more_than_60_places_ahead_of_the_folding_of_a_round(self):
        # Each likeness lays ways from each of 12 places, far more than 60 places, which are all folded away.
        likes = [("a" * 12, ""), ("a" * 11, "A"), ("a" * 10, "AA"), ("", "bB" * 6), ("b", "aaa")]
        web = Web([], likes, rounds=20)
        self.assertEqual(web.world(), slow_world(naive.Web([], likes, 20)))
        self.assertEqual(told(web)[:3], (True, 2, 12))

    def test_against_the_slow_way(self):
        for facts, likes, rounds in some_inputs(400, 2):
            web, slow = Web(facts, likes, rounds=rounds), naive.Web(facts, likes, rounds)
            self.assertEqual(told(web)[:2], (slow.closed(), slow.rounds), (facts, likes, rounds))
            self.assertEqual(web.world(), slow_world(slow), (facts, likes, rounds))
            self.assertEqual(len(web), len(naive.places_of(slow.moves)))

    def test_bad_rounds(self):
        for rounds in NO_ROUNDS:
            for facts, likes in [([], []), ([("a", "b")], [("a", "")])]:
                with self.assertRaises(BadRounds, msg=rounds) as caught:
                    Web(facts, likes, rounds=rounds)
                self.assertEqual(caught.exception.word, "badrounds")

    def test_rounds_by_name_alone(self):
        with self.assertRaises(TypeError):
            Web([], [], 3)
        self.assertEqual(told(Web(likenesses=TAIL, rounds=3, facts=[("", "")]))[:3], (False, 3, 4))

    def test_bad_words(self):
        for text in NO_WORDS:
            for facts, likes in [([(text, "a")], []), ([("a", text)], []), ([("a", "b"), ("", text)], TAIL),
                                 ([], [(text, "a")]), ([], [("a", text)]), ([("a", "b")], TAIL + [("", text)])]:
                with self.assertRaises(BadWord, msg=(facts, likes)):
                    Web(facts, likes)
                for rounds in [0, -1, 21, True]:
                    with self.assertRaises(BadWord, msg=(facts, likes)):
                        Web(facts, likes, rounds=rounds)


class AskedTest(unittest.TestCase):

    def test_world_is_seen_from_the_start(self):
        for facts, likes, rounds in some_inputs(60, 3):
            web = Web(facts, likes, rounds=rounds)
            self.assertIs(type(web.world()), World)
            self.assertEqual(web.world().seen(), web.world())
            self.assertEqual(len(web.world()), len(web))

    def test_go(self):
        web = Web([("ab", "c")], [("b", "d")])
        for word, place in [("", 0), ("a", 1), ("c", 2), ("ab", 2), ("ad", 2), ("abB", 1), ("cD", 1), ("b", None),
                            ("A", None), ("aa", None), ("cDA", 0), ("h", None), ("cC" * 30, 0)]:
            self.assertEqual(web.go(word), place, word)
        for facts, likes, rounds in some_inputs(30, 4):
            web = Web(facts, likes, rounds=rounds)
            world = web.world()
            for word in naive.words_upto(4):
                self.assertEqual(web.go(word), world.go(word))

    def test_closed_just_where_the_likenesses_hold(self):
        both = set()
        for facts, likes, rounds in some_inputs(200, 5):
            web = Web(facts, likes, rounds=rounds)
            self.assertIs(web.closed(), web.world().breaks(likes) is None)
            both.add(web.closed())
        self.assertEqual(both, {True, False})

    def test_paper(self):
        chance = random.Random(6)
        for facts, likes, rounds in some_inputs(150, 6):
            web = Web(facts, likes, rounds=rounds)
            world = web.world()
            ways = world.ways()
            for _ in range(4):
                word, place = walk_in(world, chance.randint(0, 20), chance)
                for one, other in [(word, ways[place]), (ways[place], word), (word, word)]:
                    paper = web.paper(one, other)
                    self.assertIs(shows(facts, likes, paper, one, other), True, (facts, likes, rounds, one, other))
                    self.assertEqual(naive.claims(facts, likes, paper), claims(facts, likes, paper))
                    self.assertLessEqual(len(paper), 100000)

    def test_paper_of_facts(self):
        for facts, likes, rounds in some_inputs(60, 7):
            web = Web(facts, likes, rounds=rounds)
            for one, other in facts:
                self.assertIs(shows(facts, likes, web.paper(one, other), one, other), True)
                self.assertIs(shows(facts, likes, web.paper(other, one), other, one), True)

    def test_a_paper_of_the_last_of_many(self):
        facts = [(one + other, other + one) for one, other in itertools.combinations("abcdef", 2)][:12]
        likes = [(letter * many, letter.upper() * many) for many in (1, 2, 3) for letter in "abcdefgh"]
        web = Web(facts, likes, rounds=1)
        for one, other in facts:
            swapped = one.swapcase()
            self.assertIs(shows(facts, likes, web.paper(one, other), one, other), True)
            self.assertIs(shows(facts, [], Web(facts, []).paper(one, other), one, other), True)
            self.assertIs(shows(facts, likes, web.paper(swapped, one), swapped, one), True)

    def test_a_paper_just_where_both_lead_to_one_place(self):
        words = list(naive.words_upto(2))
        for facts, likes, rounds in some_inputs(25, 8, most_fact=4, most_like=3):
            web = Web(facts, likes, rounds=rounds)
            for one, other in itertools.product(words, repeat=2):
                paper = web.paper(one, other)
                holds = web.go(one) is not None and web.go(one) == web.go(other)
                self.assertEqual(paper is not None, holds, (facts, likes, rounds, one, other))
                self.assertTrue(paper is None or shows(facts, likes, paper, one, other))

    def test_no_paper(self):
        web = Web([("a", "b")], [])
        for one, other in [("a", ""), ("", "a"), ("a", "c"), ("c", "a"), ("c", "c"), ("c", "d"), ("A", "A"), ("", "c")]:
            self.assertIsNone(web.paper(one, other), (one, other))

    def test_what_papers_show_holds_in_a_closed_web(self):
        chance = random.Random(9)
        for facts, likes, rounds in some_inputs(120, 9, most_fact=4, most_like=3):
            web = Web(facts, likes, rounds=20)
            if not web.closed():
                continue
            rows, ahead = [("start",)], [("", "")]
            for _ in range(60):
                one, other = chance.randrange(len(rows)), chance.randrange(len(rows))
                row = chance.choice([("fact", one), ("turn", one), ("on", one, other), ("home", one),
                                     ("part", one, other), ("like", one, chance.randrange(4), chance.random() < 0.5)])
                claim = naive.claim(facts, likes, ahead, row)
                if claim is not None and max(len(word) for word in claim) <= 60:
                    rows.append(row)
                    ahead.append(claim)
                    self.assertIsNotNone(web.go(claim[0]), (facts, likes, rows))
                    self.assertEqual(web.go(claim[0]), web.go(claim[1]), (facts, likes, rows))

    def test_long_papers(self):
        # Webs in which all comes to one place, or to few, of hundreds.
        chance = random.Random(10)

        def word(many):
            return "".join(chance.choice("aAbBcC") for _ in range(many))
        for many in [2, 6, 12]:
            facts = [(word(40), word(40)) for _ in range(5)]
            likes = [(word(chance.randint(0, many)), word(many)) for _ in range(24)]
            web = Web(facts, likes, rounds=20)
            for text in [word(60), "abc" * 20]:
                paper = web.paper(text, web.world().ways()[web.go(text)])
                self.assertLessEqual(len(paper), 100000)
                self.assertIs(shows(facts, likes, paper, text, web.world().ways()[web.go(text)]), True)

    def test_papers_behind_many_rounds(self):
        for likes, one, other in [(TAIL, "a" * 20, "a" * 20 + "A" * 20 + "a" * 20), (CUBE, "ab" * 30, "abab"),
                                  (FIVE, "edcba" * 11, "abcde"), (TAIL + [("a" * 12, "b")], "b" + "a" * 8, "a" * 20)]:
            web = Web([], likes, rounds=20)
            self.assertIs(shows([], likes, web.paper(one, other), one, other), True)

    def test_bad_words(self):
        web = Web([("a", "b")], TAIL)
        ahead = told(web)
        for text in NO_WORDS:
            for asked in [lambda: web.go(text), lambda: web.paper(text, "a"), lambda: web.paper("a", text),
                          lambda: web.paper("h", text), lambda: web.paper(text, "h"), lambda: web.paper(text, text)]:
                with self.assertRaises(BadWord, msg=text):
                    asked()
        self.assertEqual(told(web), ahead)

    def test_by_name(self):
        web = Web([("a", "b")], [])
        self.assertEqual(web.go(word="a"), 1)
        self.assertIs(shows([("a", "b")], [], web.paper(other="b", one="a"), "a", "b"), True)

    def test_told_lists_are_new(self):
        web = Web([("a", "b")], TAIL)
        ahead = told(web)
        paper = web.paper("a", "b")
        again = list(paper)
        paper.clear()
        web.world().moves().clear()
        self.assertEqual(web.paper("a", "b"), again)
        self.assertEqual(told(web), ahead)
        self.assertIs(type(again), list)
        self.assertEqual({type(row) for row in again}, {tuple})

    def test_asking_changes_nothing(self):
        web = Web([("a", "b")], THREE)
        ahead = told(web)
        papers = [web.paper("a", "b") for _ in range(5)]
        self.assertEqual(papers, papers[:1] * 5)
        self.assertEqual(told(web), ahead)


class HandedInTest(unittest.TestCase):

    def test_a_later_change(self):
        facts, likes = [("ab", "c")], [("b", "d"), ("", "hH")]
        web = Web(facts, likes)
        self.assertEqual((facts, likes), ([("ab", "c")], [("b", "d"), ("", "hH")]))
        ahead, paper = told(web), web.paper("ad", "c")
        facts.append(("a", ""))
        facts[0] = ("a", "b")
        likes.clear()
        self.assertEqual(told(web), ahead)
        self.assertEqual(web.paper("ad", "c"), paper)
        self.assertIs(shows([("ab", "c")], [("b", "d"), ("", "hH")], paper, "ad", "c"), True)

    def test_another_order(self):
        chance = random.Random(11)
        for facts, likes, rounds in some_inputs(80, 12):
            ahead = told(Web(facts, likes, rounds=rounds))
            for _ in range(3):
                chance.shuffle(facts)
                chance.shuffle(likes)
                self.assertEqual(told(Web(facts, likes, rounds=rounds)), ahead)

    def test_pairs_the_other_way_about(self):
        chance = random.Random(13)
        for facts, likes, rounds in some_inputs(80, 14):
            ahead = told(Web(facts, likes, rounds=rounds))
            for _ in range(3):
                facts, likes = [[pair[::chance.choice([1, -1])] for pair in pairs] for pairs in (facts, likes)]
                self.assertEqual(told(Web(facts, likes, rounds=rounds)), ahead)

    def test_told_twice(self):
        for facts, likes, rounds in some_inputs(40, 15):
            self.assertEqual(told(Web(facts * 2, likes * 2, rounds=rounds)), told(Web(facts, likes, rounds=rounds)))

    def test_webs_made_apart(self):
        facts, likes = [("ab", "c")], list(TAIL)
        one, other = Web(facts, likes), Web(facts, likes)
        one.paper("ab", "c")
        Web([("ab", "")], likes)
        self.assertEqual(told(one), told(other))
        self.assertEqual(one.paper("ab", "c"), other.paper("ab", "c"))

    def test_somewhat_beyond_the_limits(self):
        # Nothing says that these are refused.
        facts = [("a", "b")] * 13
        likes = [("ab" * 7, "ba" * 7)] * 25
        self.assertEqual(told(Web(facts, likes))[:3], (True, 0, 2))
        long = [("ab" * 30, "cd" * 30), ("ba" * 30, "dc" * 30), ("ef" * 30, "gh" * 30), ("fe" * 30, "hg" * 30)]
        self.assertEqual(len(Web(long, [])), 4 * 119 + 1)


if __name__ == "__main__":
    unittest.main()
