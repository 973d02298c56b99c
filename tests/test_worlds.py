"""spoorfold.worlds: worlds and their moves, where words lead, worlds seen from a place, whole and widened ones."""

import itertools
import random
import unittest

import naive
from spoorfold.errors import BadWord, BadWorld, NoPlace
from spoorfold.worlds import MOST_PLACES, World

NO_WORDS = ["i", "I", "a" * 61, "a b", "-", "a\n"]

# 0 -a-> 1 -a-> 2, 2 -b-> 0, 3 -b-> 3, 4 alone.
MOVES = [("b", 3, 3), ("a", 1, 2), ("b", 2, 0), ("a", 0, 1)]
RISING = [("a", 0, 1), ("a", 1, 2), ("b", 2, 0), ("b", 3, 3)]


def told(world):
    return (len(world), world.moves(), world.letters(), repr(world), world.ways(), world.motion("abA"))


def some_worlds(many, seed, most=5, letters="abc"):
    """Pairs of a number of places and moves."""
    chance = random.Random(seed)
    for _ in range(many):
        places = range(chance.randint(1, most))
        moves = []
        for letter in letters[:chance.randint(0, len(letters))]:
            led = chance.sample(places, chance.randint(0, len(places)))
            moves += [(letter, start, end) for start, end in zip(chance.sample(places, len(led)), led)]
        chance.shuffle(moves)
        yield len(places), moves


class WorldTest(unittest.TestCase):

    def refused(self, many, moves):
        with self.assertRaises(BadWorld, msg=(many, moves)) as caught:
            World(many, moves)
        self.assertEqual(caught.exception.word, "badworld")

    def test_the_number_told(self):
        self.assertEqual(MOST_PLACES, 1000)

    def test_moves_rise(self):
        self.assertEqual(World(5, MOVES).moves(), RISING)
        self.assertEqual(World(1, []).moves(), [])
        moves = [("a", start, 11 - start) for start in range(12)] + [("h", 2, 10), ("c", 10, 2), ("h", 10, 2)]
        self.assertEqual(World(12, moves[::-1]).moves(), sorted(moves))

    def test_letters(self):
        for moves, letters in [(MOVES, "ab"), ([], ""), ([("h", 0, 0), ("a", 1, 0)], "ah"), ([("c", 2, 1)], "c"),
                               ([(letter, 0, 1) for letter in "hgfedcba"], "abcdefgh")]:
            self.assertEqual(World(5, moves).letters(), letters)

    def test_len(self):
        for many in [1, 2, 5, 999, 1000]:
            self.assertEqual(len(World(many, [])), many)

    def test_repr(self):
        self.assertEqual(repr(World(5, MOVES)), "World(5 places, 4 moves)")
        self.assertEqual(repr(World(3, RISING[:2])), "World(3 places, 2 moves)")
        self.assertEqual(repr(World(1, [])), "World(1 places, 0 moves)")
        self.assertEqual(repr(World(1000, [("a", 0, 999)])), "World(1000 places, 1 moves)")

    def test_the_same(self):
        for order in itertools.permutations(MOVES):
            self.assertIs(World(5, list(order)) == World(5, RISING), True)
            self.assertIs(World(5, list(order)) != World(5, RISING), False)

    def test_not_the_same(self):
        world = World(5, MOVES)
        for other in [World(6, MOVES), World(5, MOVES[1:]), World(5, MOVES + [("c", 0, 0)]), World(5, []),
                      World(5, [("a", 1, 2), ("b", 2, 0), ("a", 0, 1), ("b", 3, 4)]),
                      World(5, [(letter, end, start) for letter, start, end in MOVES])]:
            self.assertIs(world == other, False)
            self.assertIs(world != other, True)
            self.assertIs(other == world, False)

    def test_to_nothing_else(self):
        world = World(2, [("a", 0, 1)])
        for other in [None, 2, True, "World(2 places, 1 moves)", [("a", 0, 1)], (2, [("a", 0, 1)]), object(), World]:
            self.assertIs(world == other, False, other)
            self.assertIs(other == world, False, other)
            self.assertIs(world != other, True, other)

    def test_how_many_places(self):
        for many in [0, -1, -1000, 1001, 1002, 10 ** 20, True, False]:
            self.refused(many, [])
        for many in [1, 2, 999, 1000]:
            self.assertEqual(len(World(many, [])), many)

    def test_letters_that_are_none(self):
        for letter in ["A", "H", "i", "z", "", "ab", "aa", "abcdefgh", " ", "-", "\n", "0"]:
            self.refused(2, [(letter, 0, 1)])
            self.refused(2, [("a", 0, 1), (letter, 0, 1)])
        for letter in "abcdefgh":
            self.assertEqual(World(2, [(letter, 0, 1)]).moves(), [(letter, 0, 1)])

    def test_places_that_are_none(self):
        for many in [1, 2, 1000]:
            for place in [-1, -many, many, many + 1, 10 ** 20, True, False, None]:
                self.refused(many, [("a", place, 0)])
                self.refused(many, [("a", 0, place)])
                self.refused(many, [("b", 0, 0), ("a", place, place)])
            self.assertEqual(World(many, [("a", 0, many - 1)]).go("a"), many - 1)
            self.assertEqual(World(many, [("a", many - 1, 0)]).go("A"), many - 1)

    def test_a_move_that_is_told_twice(self):
        self.refused(2, [("a", 0, 1), ("a", 0, 1)])
        self.refused(2, [("a", 0, 0), ("b", 1, 1), ("a", 0, 0)])
        self.refused(5, MOVES + MOVES[-1:])

    def test_from_one_place_to_two(self):
        self.refused(3, [("a", 0, 1), ("a", 0, 2)])
        self.refused(3, [("a", 0, 1), ("a", 1, 0), ("a", 0, 0)])
        self.assertEqual(World(3, [("a", 0, 1), ("b", 0, 2)]).moves(), [("a", 0, 1), ("b", 0, 2)])

    def test_from_two_places_to_one(self):
        self.refused(3, [("a", 1, 0), ("a", 2, 0)])
        self.refused(3, [("a", 0, 0), ("b", 2, 0), ("a", 1, 0)])
        self.assertEqual(World(3, [("a", 1, 0), ("b", 2, 0)]).moves(), [("a", 1, 0), ("b", 2, 0)])

    def test_just_where_letters_lead_one_to_one(self):
        triples = list(itertools.product("ab", range(2), range(2)))
        for moves in itertools.chain.from_iterable(itertools.product(triples, repeat=many) for many in range(4)):
            starts = [(letter, start) for letter, start, _ in moves]
            ends = [(letter, end) for letter, _, end in moves]
            if len(set(starts)) == len(starts) and len(set(ends)) == len(ends):
                self.assertEqual(World(2, list(moves)).moves(), sorted(moves))
            else:
                self.refused(2, list(moves))

    def test_a_handed_list_that_is_changed_behind(self):
        moves = list(MOVES)
        world = World(5, moves)
        self.assertEqual(moves, MOVES)
        ahead = told(world)
        moves.append(("c", 0, 0))
        moves[0] = ("a", 3, 3)
        self.assertEqual(told(world), ahead)
        self.assertEqual(world, World(5, MOVES))

    def test_told_lists_are_new(self):
        world = World(5, MOVES)
        ahead = told(world)
        world.moves().append(("c", 0, 0))
        world.moves().clear()
        world.ways().clear()
        self.assertEqual(told(world), ahead)
        self.assertIs(type(world.moves()), list)
        self.assertIs(type(world.ways()), list)

    def test_by_name(self):
        self.assertEqual(World(moves=[("a", 0, 1)], many=2), World(2, [("a", 0, 1)]))


class GoTest(unittest.TestCase):

    def test_ordinary(self):
        world = World(5, MOVES)
        for word, place, end in [("", 0, 0), ("", 4, 4), ("a", 0, 1), ("aa", 0, 2), ("aab", 0, 0), ("aaa", 0, None),
                                 ("A", 1, 0), ("A", 0, None), ("aA", 0, 0), ("Aa", 0, None), ("B", 0, 2), ("BAA", 0, 0),
                                 ("b", 3, 3), ("B", 3, 3), ("bBbB", 3, 3), ("a", 3, None), ("c", 0, None),
                                 ("C", 0, None), ("cC", 0, None), ("a", 4, None), ("aaA", 0, 1), ("aaaA", 0, None),
                                 ("h", 0, None), ("aabaab", 0, 0), ("aab" * 20, 0, 0), ("b" * 60, 3, 3)]:
            self.assertEqual(world.go(word, place), end, (word, place))

    def test_place_left_out(self):
        world = World(5, MOVES)
        for word in naive.words_upto(3):
            self.assertEqual(world.go(word), world.go(word, 0))

    def test_against_the_slow_way(self):
        for many, moves in some_worlds(40, 1):
            world = World(many, moves)
            for word in naive.words_upto(3):
                for place in range(many):
                    self.assertEqual(world.go(word, place), naive.led(word, place, moves), (many, moves, word, place))

    def test_motion(self):
        world = World(5, MOVES)
        for word, motion in [("", (0, 1, 2, 3, 4)), ("a", (1, 2, None, None, None)), ("A", (None, 0, 1, None, None)),
                             ("b", (None, None, 0, 3, None)), ("c", (None,) * 5), ("aA", (0, 1, None, None, None))]:
            self.assertEqual(world.motion(word), motion)
            self.assertIs(type(world.motion(word)), tuple)
        for many, moves in some_worlds(20, 2):
            for word in naive.words_upto(3):
                motion = tuple(naive.led(word, place, moves) for place in range(many))
                self.assertEqual(World(many, moves).motion(word), motion)

    def test_motion_of_more_than_12_places(self):
        world = World(1000, [("a", place, place + 1) for place in range(999)])
        self.assertEqual(world.motion("a"), tuple(range(1, 1000)) + (None,))

    def test_bad_words(self):
        world = World(5, MOVES)
        for text in NO_WORDS:
            for asked in [lambda: world.go(text), lambda: world.go(text, 0), lambda: world.motion(text)]:
                with self.assertRaises(BadWord, msg=text):
                    asked()

    def test_no_place(self):
        for many in [1, 5, 1000]:
            for place in [-1, -many, many, many + 1, 10 ** 20, True, False]:
                with self.assertRaises(NoPlace) as caught:
                    World(many, []).go("", place)
                self.assertIs(caught.exception.place, place)
                self.assertEqual(caught.exception.word, "noplace")
            self.assertEqual(World(many, []).go("", many - 1), many - 1)

    def test_bad_word_ahead_of_no_place(self):
        for text in NO_WORDS:
            for place in [-1, 5, True]:
                with self.assertRaises(BadWord):
                    World(5, MOVES).go(text, place)

    def test_by_name(self):
        world = World(5, MOVES)
        self.assertEqual(world.go(word="a", place=1), 2)
        self.assertEqual(world.go(place=1, word="A"), 0)
        self.assertEqual(world.motion(word=""), (0, 1, 2, 3, 4))


class SeenTest(unittest.TestCase):

    def test_places_that_no_word_leads_to_go(self):
        world = World(5, MOVES)
        self.assertEqual(world.seen(3), World(1, [("b", 0, 0)]))
        self.assertEqual(world.seen(4), World(1, []))
        self.assertEqual(len(world.seen()), 3)

    def test_numbers_as_they_are_come_to(self):
        world = World(5, MOVES)
        # From 0: a to 1, B to 2.
        self.assertEqual(world.seen(0).moves(), [("a", 0, 1), ("a", 1, 2), ("b", 2, 0)])
        # From 1: a to 2, A to 0.
        self.assertEqual(world.seen(1).moves(), [("a", 0, 1), ("a", 2, 0), ("b", 1, 2)])
        # From 2: A to 1, b to 0.
        self.assertEqual(world.seen(2).moves(), [("a", 1, 0), ("a", 2, 1), ("b", 0, 2)])

    def test_signs_rise_a_great_a_b(self):
        signs = "aAbBcCdDeEfFgGhH"
        moves = [(sign.lower(), 0, at + 1) if sign.islower() else (sign.lower(), at + 1, 0)
                 for at, sign in enumerate(signs)]
        world = World(17, moves)
        self.assertEqual(world.seen(), world)
        self.assertEqual(world.ways(), ["", *signs])
        turned = World(17, [(letter, 16 - start, 16 - end) for letter, start, end in moves])
        self.assertEqual(turned.seen(16), world)
        self.assertEqual(turned.ways(16), ["", *signs])

    def test_place_left_out(self):
        world = World(3, [("a", 2, 0), ("b", 1, 0)])
        self.assertEqual(world.seen(), world.seen(0))
        self.assertEqual(world.ways(), ["", "A", "B"])
        self.assertEqual(world.seen().moves(), [("a", 1, 0), ("b", 2, 0)])

    def test_ways(self):
        world = World(5, MOVES)
        self.assertEqual(world.ways(0), ["", "a", "B"])
        self.assertEqual(world.ways(1), ["", "a", "A"])
        self.assertEqual(world.ways(2), ["", "A", "b"])
        self.assertEqual(world.ways(3), [""])
        self.assertEqual(world.ways(4), [""])

    def test_against_the_slow_way(self):
        for many, moves in some_worlds(80, 3):
            world = World(many, moves)
            for place in range(many):
                ways, seen = naive.seen(many, moves, place)
                self.assertEqual(world.ways(place), ways, (many, moves, place))
                self.assertEqual(world.seen(place), World(len(ways), seen), (many, moves, place))

    def test_ways_lead_to_the_places_by_their_numbers(self):
        for many, moves in some_worlds(40, 4, most=12, letters="abh"):
            world = World(many, moves)
            for place in range(many):
                seen = world.seen(place)
                self.assertEqual([seen.go(way) for way in world.ways(place)], list(range(len(seen))))
                self.assertEqual(seen.ways(), world.ways(place))

    def test_seen_twice(self):
        for many, moves in some_worlds(40, 5, most=12, letters="abh"):
            for place in range(many):
                seen = World(many, moves).seen(place)
                self.assertEqual(seen.seen(), seen)
                self.assertEqual(seen.seen(0).moves(), seen.moves())

    def test_the_same_just_where_words_lead_alike(self):
        words = list(naive.words_upto(4))
        worlds = list(some_worlds(25, 6, most=3, letters="ab"))
        views = [(World(many, moves).seen(place), [naive.led(word, place, moves) for word in words])
                 for many, moves in worlds for place in range(many)]
        for (one, ends), (other, others) in itertools.combinations(views, 2):
            leads = [(end is None) == (further is None) for end, further in zip(ends, others)]
            pairs = {(end, further) for end, further in zip(ends, others)}
            one_to_one = len({end for end, _ in pairs}) == len(pairs) == len({further for _, further in pairs})
            self.assertEqual(one == other, all(leads) and one_to_one)

    def test_a_thousand_places(self):
        world = World(1000, [("a", place, place + 1) for place in range(999)])
        self.assertEqual(world.seen(), world)
        self.assertEqual(world.ways()[-1], "a" * 999)
        self.assertEqual(world.seen(999).moves(), [("a", place + 1, place) for place in range(999)])
        self.assertEqual(world.ways(999)[-1], "A" * 999)
        self.assertEqual(world.ways(1)[:4], ["", "a", "A", "aa"])

    def test_no_place(self):
        world = World(5, MOVES)
        for place in [-1, -5, 5, 6, True, False]:
            for asked in [world.seen, world.ways]:
                with self.assertRaises(NoPlace) as caught:
                    asked(place)
                self.assertIs(caught.exception.place, place)

    def test_it_stays_as_it_was(self):
        world = World(5, MOVES)
        ahead = told(world)
        world.seen(2).moves().clear()
        world.ways(2).append("h")
        self.assertEqual(told(world), ahead)
        self.assertEqual(world.ways(2), ["", "A", "b"])

    def test_by_name(self):
        self.assertEqual(World(5, MOVES).seen(place=3), World(1, [("b", 0, 0)]))
        self.assertEqual(World(5, MOVES).ways(place=3), [""])


class WholeTest(unittest.TestCase):

    def test_is_whole(self):
        world = World(3, [("a", 0, 1), ("a", 1, 2), ("a", 2, 0), ("b", 0, 0), ("b", 2, 2), ("c", 0, 2), ("c", 1, 1),
                          ("c", 2, 0)])
        for letters, answer in [("", True), ("a", True), ("c", True), ("ac", True), ("ca", True), ("b", False),
                                ("ab", False), ("ba", False), ("abc", False), ("d", False), ("ad", False),
                                ("abcdefgh", False)]:
            self.assertIs(world.is_whole(letters), answer, letters)

    def test_no_letters(self):
        self.assertIs(World(1, []).is_whole(""), True)
        self.assertIs(World(1000, []).is_whole(""), True)
        self.assertIs(World(1, []).is_whole("a"), False)
        self.assertEqual(World(5, MOVES).widened(""), World(5, MOVES))

    def test_widened(self):
        world = World(5, MOVES)
        # a does not lead from 2, 3, 4, nor to 0, 3, 4; b not from 0, 1, 4, nor to 1, 2, 4.
        self.assertEqual(world.widened("a").moves(), sorted(MOVES + [("a", 2, 0), ("a", 3, 3), ("a", 4, 4)]))
        self.assertEqual(world.widened("b").moves(), sorted(MOVES + [("b", 0, 1), ("b", 1, 2), ("b", 4, 4)]))
        self.assertEqual(world.widened("ab"), world.widened("a").widened("b"))
        self.assertEqual(world.widened("ba"), world.widened("ab"))

    def test_letters_that_the_world_lacks(self):
        world = World(3, [("a", 0, 2)])
        self.assertEqual(world.widened("h").moves(), [("a", 0, 2), ("h", 0, 0), ("h", 1, 1), ("h", 2, 2)])
        self.assertEqual(world.widened("ha").moves(), [("a", 0, 2), ("a", 1, 0), ("a", 2, 1), ("h", 0, 0), ("h", 1, 1),
                                                       ("h", 2, 2)])
        self.assertEqual(World(1, []).widened("b").moves(), [("b", 0, 0)])

    def test_a_world_that_is_whole(self):
        world = World(3, [("a", 0, 1), ("a", 1, 2), ("a", 2, 0)])
        self.assertEqual(world.widened("a"), world)
        self.assertEqual(world.widened("a").moves(), world.moves())

    def test_against_the_slow_way(self):
        for many, moves in some_worlds(60, 7, most=6):
            world = World(many, moves)
            for letters in ["", "a", "b", "cb", "abc", "dcba"]:
                whole = all(len([move for move in moves if move[0] == letter]) == many for letter in letters)
                self.assertIs(world.is_whole(letters), whole)
                added = []
                for letter in letters:
                    starts = sorted(set(range(many)) - {move[1] for move in moves if move[0] == letter})
                    ends = sorted(set(range(many)) - {move[2] for move in moves if move[0] == letter})
                    added += [(letter, start, end) for start, end in zip(starts, ends)]
                self.assertEqual(world.widened(letters), World(many, moves + added), (many, moves, letters))
                self.assertIs(world.widened(letters).is_whole(letters), True)

    def test_a_thousand_places(self):
        world = World(1000, [("a", 0, 999)]).widened("ab")
        self.assertEqual(len(world.moves()), 2000)
        self.assertEqual((world.go("a", 1), world.go("a", 999), world.go("b", 999)), (0, 998, 999))

    def test_it_stays_as_it_was(self):
        world = World(5, MOVES)
        ahead = told(world)
        world.widened("abc")
        self.assertEqual(told(world), ahead)

    def test_by_name(self):
        self.assertIs(World(1, []).is_whole(letters="a"), False)
        self.assertEqual(World(1, []).widened(letters="a"), World(1, [("a", 0, 0)]))


class BreaksTest(unittest.TestCase):

    def test_all_hold(self):
        world = World(5, MOVES)
        for likenesses in [[], [("", "")], [("a", "a")], [("c", "d")], [("aaa", "cba")], [("aA", "aAaA")],
                           [("aAbB", "bBaA"), ("c", "aaa"), ("C", "h")]]:
            self.assertIsNone(world.breaks(likenesses), likenesses)

    def test_both_words_nowhere(self):
        self.assertIsNone(World(3, []).breaks([("a", "b"), ("A", "aA"), ("ab", "c")]))
        self.assertEqual(World(3, []).breaks([("a", "b"), ("", "b")]), (1, 0))

    def test_one_word_nowhere(self):
        world = World(5, MOVES)
        self.assertEqual(world.breaks([("aA", "")]), (0, 2))
        self.assertEqual(world.breaks([("", "aA")]), (0, 2))
        self.assertEqual(world.breaks([("a", "c")]), (0, 0))
        self.assertEqual(world.breaks([("b", "c")]), (0, 2))
        self.assertEqual(world.breaks([("aab", "")]), (0, 1))

    def test_other_places(self):
        world = World(4, [("a", 2, 3), ("b", 2, 1), ("a", 3, 0), ("b", 3, 2)])
        self.assertEqual(world.breaks([("a", "b")]), (0, 2))

    def test_the_first_of_several(self):
        world = World(5, MOVES)
        self.assertEqual(world.breaks([("a", "a"), ("b", "c"), ("a", "c")]), (1, 2))
        self.assertEqual(world.breaks([("a", "c"), ("b", "c")]), (0, 0))
        self.assertEqual(world.breaks([("c", "d"), ("", "bB"), ("", "aA")]), (1, 0))

    def test_against_the_slow_way(self):
        chance = random.Random(8)
        words = list(naive.words_upto(2))
        for many, moves in some_worlds(150, 8, letters="ab"):
            likenesses = [(chance.choice(words), chance.choice(words)) for _ in range(3)]
            wrong = [(number, place) for number, (one, other) in enumerate(likenesses) for place in range(many)
                     if naive.led(one, place, moves) != naive.led(other, place, moves)]
            self.assertEqual(World(many, moves).breaks(likenesses), min(wrong, default=None))

    def test_twenty_four_likenesses_of_12_signs(self):
        world = World(1000, [("a", place, (place + 1) % 1000) for place in range(1000)])
        likenesses = [("a" * 6 + "A" * 6, "")] * 23
        self.assertIsNone(world.breaks(likenesses))
        self.assertEqual(world.breaks(likenesses + [("a" * 12, "a" * 11)]), (23, 0))

    def test_bad_words_are_looked_at_first(self):
        world = World(5, MOVES)
        for text in NO_WORDS:
            for likenesses in [[(text, "a")], [("a", text)], [("a", "b"), (text, "a")], [("a", "c"), ("", text)]]:
                with self.assertRaises(BadWord, msg=likenesses):
                    world.breaks(likenesses)

    def test_what_is_handed_in_and_the_world_stay(self):
        world = World(5, MOVES)
        ahead = told(world)
        likenesses = [("a", "a"), ("b", "c")]
        world.breaks(likenesses)
        self.assertEqual(likenesses, [("a", "a"), ("b", "c")])
        self.assertEqual(told(world), ahead)

    def test_a_tuple(self):
        self.assertIs(type(World(5, MOVES).breaks([("a", "c")])), tuple)

    def test_by_name(self):
        self.assertEqual(World(5, MOVES).breaks(likenesses=[("a", "c")]), (0, 0))


if __name__ == "__main__":
    unittest.main()
