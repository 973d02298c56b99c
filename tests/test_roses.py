"""spoorfold.roses: words that come home, what is made of them, and worlds that tell words apart."""

import random
import unittest

import naive
from spoorfold.errors import BadWord
from spoorfold.papers import shows
from spoorfold.roses import made_of, makers, parting, rose, shared, sides
from spoorfold.worlds import World

NO_WORDS = ["i", "I", "a" * 61, "a b", "-", "a\n"]
POINT = World(1, [])
# A lot that folds much: a and b are made of it.
FOLDS = ["aab", "ab", "bba"]


def some_word(chance, signs, most):
    return "".join(chance.choice(signs) for _ in range(chance.randint(0, most)))


def some_lots(many, seed, most_words=4, most=6):
    """Lots of words, of which some fold much and some do not, and the signs that they are of."""
    chance = random.Random(seed)
    for _ in range(many):
        signs = chance.choice(["aA", "ab", "aAbB", "aAbBcC"])
        base = [some_word(chance, signs, 3) for _ in range(3)]
        words = []
        for _ in range(chance.randint(0, most_words)):
            row = [chance.choice(base + [naive.undone(word) for word in base]) for _ in range(2)]
            words.append(chance.choice(["".join(row), some_word(chance, signs, most)]))
        yield words, signs


def slow_rose(words):
    """The rose by the slow way: the web of each of the reduced words beside the empty word."""
    moves = naive.Web([(naive.reduced(word), "") for word in words], [], 0).moves
    numbers = {place: number for number, place in enumerate(sorted(naive.places_of(moves)))}
    return World(len(numbers), [(letter, numbers[start], numbers[end]) for letter, start, end in moves]).seen()


def put_together(words, row):
    return naive.reduced("".join(words[number] if forth else naive.undone(words[number]) for number, forth in row))


def degrees(world):
    """How many ways each place has."""
    count = [0] * len(world)
    for _, start, end in world.moves():
        count[start] += 1
        count[end] += 1
    return count


def trimmed(world):
    """The slow way to take out places but 0 of one way alone."""
    moves = world.moves()
    while True:
        count = {}
        for _, start, end in moves:
            count[start] = count.get(start, 0) + 1
            count[end] = count.get(end, 0) + 1
        left = [move for move in moves if all(place == 0 or count[place] > 1 for place in move[1:])]
        if left == moves:
            return World(len(world), moves).seen()
        moves = left


def big_lots():
    """Lots of 12 words and 400 signs."""
    chance = random.Random(99)

    def reduced_word(signs, many):
        word = ""
        while len(word) < many:
            word = naive.reduced(word + chance.choice(signs))
        return word
    sizes = [33] * 8 + [34] * 4
    for signs in ["aA", "aAbB", "aAbBcC", naive.RISING]:
        yield [reduced_word(signs, many) for many in sizes]
    yield ["".join(chance.choice("ab") for _ in range(many)) for many in sizes]
    yield [("ab" * 20)[:many] for many in sizes]
    yield ["a" * many for many in [60, 59, 58, 57, 56, 55, 30, 20, 2, 1, 1, 1]]
    base = ["ab", "baB", "aab"]
    lot = []
    for many in sizes:
        word = ""
        while len(naive.reduced(word)) < many - 3:
            word = naive.reduced(word + chance.choice(base + [naive.undone(text) for text in base]))
        lot.append(word)
    yield lot


class RoseTest(unittest.TestCase):

    def test_no_words(self):
        self.assertEqual(rose([]), POINT)
        self.assertEqual(rose([""]), POINT)
        self.assertEqual(rose(["", "aA", "abBA"]), POINT)

    def test_ordinary(self):
        for words, world in [
            (["a"], World(1, [("a", 0, 0)])),
            (["A"], World(1, [("a", 0, 0)])),
            (["a", "b"], World(1, [("a", 0, 0), ("b", 0, 0)])),
            (["aa"], World(2, [("a", 0, 1), ("a", 1, 0)])),
            (["aa", "aaa"], World(1, [("a", 0, 0)])),
            (["abA"], World(2, [("a", 0, 1), ("b", 1, 1)])),
            (["bA", "aaB"], World(1, [("a", 0, 0), ("b", 0, 0)])),
            (["aa", "bb", "ab"], World(2, [("a", 0, 1), ("a", 1, 0), ("b", 0, 1), ("b", 1, 0)])),
            (FOLDS, World(1, [("a", 0, 0), ("b", 0, 0)])),
        ]:
            self.assertEqual(rose(words), world, words)

    def test_words_are_reduced_ahead(self):
        # Not reduced the first one would have a place behind b.
        self.assertEqual(rose(["abBa"]), rose(["aa"]))
        self.assertEqual(rose(["bB", "a"]), rose(["a"]))

    def test_against_the_slow_way(self):
        for words, _ in some_lots(150, 1):
            world = rose(words)
            self.assertEqual(world, slow_rose(words), words)
            self.assertEqual(world.seen(), world)
            self.assertTrue(all(world.go(naive.reduced(word)) == 0 for word in words))

    def test_big_lots(self):
        for words in big_lots():
            self.assertEqual(len(words), 12)
            self.assertIn(sum(len(word) for word in words), range(364, 401))
            world = rose(words)
            self.assertTrue(all(world.go(word) == 0 for word in words))
            self.assertTrue(all(many > 1 for many in degrees(world)[1:]))

    def test_bad_words(self):
        for text in NO_WORDS:
            for words in [[text], ["a", text], [text, "a"]]:
                with self.assertRaises(BadWord):
                    rose(words)


class MadeOfTest(unittest.TestCase):

    def need_made(self, words, word):
        row = made_of(words, word)
        self.assertIs(type(row), list, (words, word))
        self.assertTrue(all(type(pair) is tuple and type(pair[0]) is int and type(pair[1]) is bool for pair in row))
        self.assertEqual(put_together(words, row), naive.reduced(word), (words, word))
        return row

    def test_ordinary(self):
        self.assertEqual(made_of(["ab"], "ab"), [(0, True)])
        self.assertEqual(made_of(["ab"], "BA"), [(0, False)])
        self.assertEqual(made_of(["ab", "c"], "cab"), [(1, True), (0, True)])
        self.assertEqual(made_of(["aa", "aaa"], "a"), self.need_made(["aa", "aaa"], "a"))
        for word in ["a", "b", "abAB", "ba" * 30, "aB" * 30]:
            self.need_made(FOLDS, word)

    def test_none(self):
        for words, word in [([], "a"), ([""], "a"), (["aA"], "a"), (["aa"], "a"), (["aa"], "aaa"), (["ab"], "ba"),
                            (["abA"], "b"), (["a"], "b"), (["aa", "bb"], "abAB"), (["a", "bab"], "bb")]:
            self.assertIsNone(made_of(words, word), (words, word))

    def test_the_empty_row(self):
        for words in [[], [""], ["ab"], FOLDS]:
            for word in ["", "aA", "abBA"]:
                self.assertEqual(put_together(words, self.need_made(words, word)), "")
        self.assertEqual(made_of([], ""), [])
        self.assertEqual(made_of([], "hH"), [])
        self.assertEqual(made_of(["a"], ""), [])

    def test_words_that_are_not_reduced(self):
        self.need_made(["abBb"], "ab")
        self.need_made(["ab"], "abBb")
        self.need_made(["cC", "aaA", "bB"], "aAaa")
        self.assertIsNone(made_of(["aA"], "b"))

    def test_words_told_twice(self):
        self.need_made(["ab", "ab", "ab"], "abab")
        self.need_made(["aa", "", "aa", "aaa", "aaa"], "a")

    def test_just_what_comes_home(self):
        both = set()
        for words, signs in some_lots(60, 2):
            world = slow_rose(words)
            for word in naive.words_upto(4, signs[:4]):
                home = world.go(naive.reduced(word)) == 0
                if home:
                    self.need_made(words, word)
                else:
                    self.assertIsNone(made_of(words, word))
                both.add(home)
        self.assertEqual(both, {True, False})

    def test_rows_put_together_by_chance(self):
        chance = random.Random(3)
        for words, _ in some_lots(200, 4, most_words=12, most=8):
            if words:
                row = [(chance.randrange(len(words)), chance.random() < 0.5) for _ in range(chance.randint(0, 6))]
                word = put_together(words, row)
                if len(word) <= 60:
                    self.need_made(words, word)

    def test_big_lots(self):
        for words in big_lots():
            for one in range(0, 12, 3):
                word = naive.reduced(words[one] + naive.undone(words[one - 1]))
                if len(word) <= 60:
                    self.need_made(words, word)
            for word in makers(rose(words)):
                if len(word) <= 60:
                    self.need_made(words, word)

    def test_a_short_row_beside_one_of_billions(self):
        # Without h in the lot h would be 10 ** 12 words long: each letter is 56 of the one ahead and one more.
        letters = "abcdefgh"
        words = ["a"] + [one * 56 + other for one, other in zip(letters, letters[1:])] + ["h"]
        self.assertEqual(self.need_made(words, "h"), [(8, True)])
        self.assertEqual(len(self.need_made(words[:-1], "b")), 57)
        self.assertEqual(len(self.need_made(words[:-1], "c")), 56 * 57 + 1)

    def test_a_place_with_a_way_to_itself_that_becomes_one_with_another(self):
        # b leads from where a leads to that place itself, then c is found to lead there, too.
        self.need_made(["cdd", "abA", "aC"], "cbC")
        self.need_made(["cdd", "abA", "ahgfA", "aC"], "chgfbC")

    def test_the_shorter_row_of_two(self):
        # b is the first word undone and a behind it, or the last word.
        self.assertEqual(self.need_made(["aB", "a", "b"], "bbb"), [(2, True)] * 3)

    def test_refusals(self):
        for text in NO_WORDS:
            for words, word in [([text], "a"), (["a", text], "a"), (["a"], text), ([], text)]:
                with self.assertRaises(BadWord):
                    made_of(words, word)

    def test_new_lists(self):
        row = made_of(["ab"], "ab")
        row.clear()
        self.assertEqual(made_of(["ab"], "ab"), [(0, True)])


class MakersTest(unittest.TestCase):

    def test_ordinary(self):
        self.assertEqual(makers(POINT), [])
        self.assertEqual(makers(World(3, [])), [])
        self.assertEqual(makers(World(1, [("a", 0, 0), ("b", 0, 0)])), ["a", "b"])
        self.assertEqual(makers(World(2, [("a", 0, 1), ("a", 1, 0)])), ["aa"])
        self.assertEqual(makers(World(2, [("a", 1, 0), ("b", 0, 1)])), ["ba"])
        self.assertEqual(makers(World(3, [("a", 0, 1), ("b", 1, 2), ("b", 2, 1)])), ["abbA"])
        self.assertEqual(makers(World(2, [("a", 0, 1), ("b", 1, 1)])), ["abA"])
        self.assertEqual(makers(World(2, [("a", 0, 1), ("b", 0, 1), ("c", 0, 1)])), ["bA", "cA"])

    def test_by_the_rising_moves_as_seen_from_0(self):
        # Places 1 and 2 change their numbers as seen from 0.
        world = World(3, [("a", 0, 2), ("b", 0, 1), ("c", 1, 1), ("c", 2, 2), ("a", 1, 0)])
        self.assertEqual(world.seen().moves(), [("a", 0, 1), ("a", 2, 0), ("b", 0, 2), ("c", 1, 1), ("c", 2, 2)])
        self.assertEqual(world.ways(), ["", "a", "A"])
        self.assertEqual(makers(world), ["ba", "acA", "Aca"])

    def test_the_tree_goes_by_small_letters_first(self):
        # Place 1 is come to by a, though A leads there, too.
        self.assertEqual(makers(World(2, [("a", 1, 0), ("a", 0, 1)])), ["aa"])
        self.assertEqual(makers(World(2, [("a", 1, 0), ("b", 1, 0)])), ["Ab"])

    def test_places_of_one_way_alone(self):
        world = World(5, [("a", 0, 1), ("a", 1, 2), ("b", 0, 3), ("b", 3, 0), ("c", 3, 4)])
        self.assertEqual(makers(world), ["bb"])
        self.assertEqual(rose(makers(world)), World(2, [("b", 0, 1), ("b", 1, 0)]))

    def test_a_world_of_which_place_0_does_not_reach_all(self):
        self.assertEqual(makers(World(4, [("a", 0, 1), ("a", 1, 0), ("b", 2, 3), ("b", 3, 2), ("c", 3, 3)])), ["aa"])
        self.assertEqual(makers(World(2, [("b", 1, 1)])), [])

    def test_a_rose_again(self):
        for words, _ in some_lots(150, 5):
            world = rose(words)
            self.assertEqual(rose(makers(world)), world, words)

    def test_what_is_left_of_any_world(self):
        chance = random.Random(6)
        for _ in range(150):
            places = chance.randint(1, 7)
            moves = []
            for letter in "abc":
                starts = chance.sample(range(places), chance.randint(0, places))
                moves += list(zip([letter] * places, starts, chance.sample(range(places), len(starts))))
            world = World(places, moves)
            told = makers(world)
            self.assertEqual(rose(told), trimmed(world.seen()), moves)
            seen = world.seen()
            self.assertEqual(len(told), len(seen.moves()) - len(seen) + 1)
            self.assertTrue(all(word == naive.reduced(word) != "" and world.go(word) == 0 for word in told))

    def test_against_the_slow_way(self):
        chance = random.Random(7)
        for _ in range(60):
            places = chance.randint(1, 4)
            moves = []
            for letter in "ab":
                starts = chance.sample(range(places), chance.randint(0, places))
                moves += list(zip([letter] * places, starts, chance.sample(range(places), len(starts))))
            ways, told = naive.seen(places, moves, 0)
            expected = []
            for letter, start, end in told:
                if ways[start] + letter != ways[end] and ways[end] + letter.upper() != ways[start]:
                    expected.append(naive.reduced(ways[start] + letter + naive.undone(ways[end])))
            self.assertEqual(makers(World(places, moves)), expected, moves)

    def test_the_largest_world(self):
        line = [("a", place, place + 1) for place in range(999)]
        self.assertEqual(makers(World(1000, line)), [])
        told = makers(World(1000, line + [("b", place, place) for place in range(1000)]))
        self.assertEqual(len(told), 1000)
        self.assertEqual(told[-1], "a" * 999 + "b" + "A" * 999)

    def test_new_lists(self):
        world = rose(["ab"])
        told = makers(world)
        told.clear()
        self.assertEqual(makers(world), ["ab"])


class SidesTest(unittest.TestCase):

    def test_ordinary(self):
        self.assertEqual(sides(["a", "b"], "ab"), 1)
        self.assertEqual(sides(["aa", "b", "abA"], "ab"), 2)
        self.assertEqual(sides(["aaa"], "a"), 3)
        self.assertEqual(sides(["aa", "bb", "ab"], "ba"), 2)
        self.assertEqual(sides(["a" * 60], "a"), 60)

    def test_not_whole(self):
        self.assertIsNone(sides(["aa", "bb"], "ab"))
        self.assertIsNone(sides(["aa", "bb"], "a"))
        self.assertIsNone(sides(["abA"], "a"))
        self.assertIsNone(sides([], "a"))

    def test_letters_that_the_words_lack(self):
        self.assertIsNone(sides(["a", "b"], "abc"))
        self.assertIsNone(sides(["aa"], "b"))
        self.assertIsNone(sides(["a", "cC"], "ac"))
        self.assertEqual(sides(["a", "b"], "b"), 1)

    def test_no_letters(self):
        self.assertEqual(sides([], ""), 1)
        self.assertEqual(sides(["abA"], ""), 2)
        self.assertEqual(sides(["aa", "bb"], ""), 3)

    def test_against_the_rose(self):
        for words, signs in some_lots(150, 8):
            for letters in ["", "a", "b", "ab", "ba"]:
                world = slow_rose(words)
                whole = all(world.go(letter, place) is not None for letter in letters for place in range(len(world)))
                self.assertEqual(sides(words, letters), len(world) if whole else None)

    def test_refusals(self):
        for text in NO_WORDS:
            with self.assertRaises(BadWord):
                sides(["a", text], "a")


class SharedTest(unittest.TestCase):

    def need_shared(self, words, others, signs="aAbB", most=5):
        world = shared(words, others)
        self.assertIs(type(world), World)
        self.assertEqual(world.seen(), world)
        self.assertTrue(all(many > 1 for many in degrees(world)[1:]), (words, others))
        one, other = slow_rose(words), slow_rose(others)
        for word in naive.words_upto(most, signs):
            if word == naive.reduced(word):
                self.assertEqual(world.go(word) == 0, one.go(word) == 0 == other.go(word), (words, others, word))
        # Both let home what is made of what the shared one lets home.
        for word in makers(world):
            self.assertTrue(made_by_walk(one, word) == made_by_walk(other, word) == 0, (words, others, word))
        return world

    def test_ordinary(self):
        self.assertEqual(shared(["aa"], ["aaa"]), rose(["a" * 6]))
        self.assertEqual(shared(["a"], ["b"]), POINT)
        self.assertEqual(shared(["a", "b"], ["ab", "ba"]), rose(["ab", "ba"]))
        self.assertEqual(shared(["ab"], ["ab"]), rose(["ab"]))
        self.assertEqual(shared(["aa", "b"], ["a", "bb"]), rose(["aa", "bb"]))
        self.assertEqual(shared(["abA"], ["abA", "acA"]), rose(["abA"]))

    def test_hair_is_taken_out(self):
        # Both have a place behind a from which nothing comes home in both.
        self.assertEqual(shared(["abA"], ["acA"]), POINT)
        self.assertEqual(shared(["abbA", "cc"], ["acbA", "c"]), rose(["cc"]))

    def test_a_lot_without_words(self):
        for words in [[], [""], ["aA"]]:
            for others in [[], [""], ["ab"], FOLDS]:
                self.assertEqual(shared(words, others), POINT)
                self.assertEqual(shared(others, words), POINT)

    def test_lots_by_chance(self):
        lots = [words for words, _ in some_lots(160, 9)]
        for words, others in zip(lots[::2], lots[1::2]):
            world = self.need_shared(words, others)
            self.assertEqual(shared(others, words), world)

    def test_lots_of_30_signs(self):
        chance = random.Random(10)
        for _ in range(20):
            lots = []
            for _ in range(2):
                sizes = chance.choice([[30], [15, 15], [10, 10, 10], [29, 1], [7, 11, 12], [2, 3, 25]])
                lots.append(["".join(chance.choice("ab") for _ in range(many)) for many in sizes])
            self.need_shared(*lots)
        self.assertEqual(len(shared(["a" * 29], ["a" * 30])), 870)
        self.need_shared(["a" * 29], ["a" * 30], "aA")

    def test_refusals(self):
        for text in NO_WORDS:
            for words, others in [([text], []), ([], [text]), (["a", text], ["a"]), (["a"], ["a", text])]:
                with self.assertRaises(BadWord):
                    shared(words, others)


def made_by_walk(world, word):
    """Where a word of any length leads from 0."""
    place = 0
    for sign in word:
        place = world.go(sign, place) if place is not None else None
    return place


class PartingTest(unittest.TestCase):

    def need_home(self, words, word):
        verdict = parting(words, word)
        self.assertIs(type(verdict), tuple)
        self.assertEqual((len(verdict), verdict[0], type(verdict[1])), (2, "home", list), (words, word))
        facts = [(naive.reduced(text), "") for text in words]
        self.assertIs(shows(facts, [], verdict[1], naive.reduced(word), ""), True, (words, word))
        self.assertLessEqual(len(verdict[1]), 100000)

    def need_away(self, words, word):
        verdict = parting(words, word)
        self.assertIs(type(verdict), tuple)
        self.assertEqual((len(verdict), verdict[0], type(verdict[1])), (2, "away", World), (words, word))
        letters = "".join(sorted(set("".join([*words, word]).lower())))
        world = verdict[1]
        self.assertEqual(world.letters(), letters)
        self.assertIs(world.is_whole(letters), True)
        self.assertEqual([world.go(text) for text in words], [0] * len(words), (words, word))
        self.assertNotIn(world.go(word), [0, None], (words, word))

    def test_home(self):
        for words, word in [([], ""), ([""], ""), ([], "aA"), (["a"], ""), (["a"], "a"), (["a"], "A"),
                            (["aa", "aaa"], "a"), (FOLDS, "a"), (FOLDS, "abAB"), (["ab"], "BA" * 30), (["abBa"], "aa")]:
            self.need_home(words, word)

    def test_away(self):
        for words, word in [([], "a"), ([""], "a"), (["aA"], "b"), (["aa"], "a"), (["aa"], "aaa"), (["ab"], "ba"),
                            (["a"], "b"), (["abA"], "b"), (["aa", "bb"], "abAB"), ([], "abc"), (["abBa"], "a"),
                            (["hH", "a"], "aba"), (["aa"], "cCa"), ([], "a" * 60)]:
            self.need_away(words, word)

    def test_lots_by_chance(self):
        both = set()
        chance = random.Random(11)
        for words, signs in some_lots(300, 12):
            word = some_word(chance, signs, 8)
            home = slow_rose(words).go(naive.reduced(word)) == 0
            (self.need_home if home else self.need_away)(words, word)
            both.add(home)
        self.assertEqual(both, {True, False})

    def test_all_words_of_few_signs(self):
        for words in [["aa", "b"], ["ab", "ba"], ["aab", "abb"], ["abAB"]]:
            world = slow_rose(words)
            for word in naive.words_upto(4):
                home = world.go(naive.reduced(word)) == 0
                (self.need_home if home else self.need_away)(words, word)

    def test_big_lots(self):
        kinds = set()
        for words in big_lots():
            for word in ["a", "ab" * 30, "aB" * 30, words[3], "abcdefgh" * 7, words[0][:20] + words[1][:20]]:
                kind = parting(words, word)[0]
                (self.need_home if kind == "home" else self.need_away)(words, word)
                kinds.add(kind)
        self.assertEqual(kinds, {"home", "away"})

    def test_home_just_where_it_is_made_of_them(self):
        chance = random.Random(13)
        for words, signs in some_lots(150, 14):
            word = some_word(chance, signs, 6)
            self.assertEqual(parting(words, word)[0] == "home", made_of(words, word) is not None)

    def test_a_short_paper_where_the_row_has_billions(self):
        letters = "abcdefgh"
        words = ["a"] + [one * 56 + other for one, other in zip(letters, letters[1:])]
        self.need_home(words, "h")

    def test_refusals(self):
        for text in NO_WORDS:
            for words, word in [([text], "a"), (["a", text], "a"), (["a"], text), ([], text)]:
                with self.assertRaises(BadWord):
                    parting(words, word)

    def test_new_lists(self):
        paper = parting(["a"], "a")[1]
        again = list(paper)
        paper.clear()
        self.assertEqual(parting(["a"], "a"), ("home", again))


class AllTest(unittest.TestCase):

    def test_by_name(self):
        self.assertEqual(rose(words=["a"]), rose(["a"]))
        self.assertEqual(made_of(word="a", words=["a"]), [(0, True)])
        self.assertEqual(makers(world=rose(["a"])), ["a"])
        self.assertEqual(sides(letters="a", words=["aa"]), 2)
        self.assertEqual(shared(others=["aaa"], words=["aa"]), rose(["a" * 6]))
        self.assertEqual(parting(word="a", words=["aa"]), parting(["aa"], "a"))

    def test_handed_lists_are_not_changed(self):
        words, others = ["abBa", "c"], ["aa"]
        rose(words), made_of(words, "aa"), sides(words, "a"), shared(words, others), parting(words, "aa")
        parting(words, "d")
        self.assertEqual((words, others), (["abBa", "c"], ["aa"]))

    def test_a_world_handed_in_is_not_changed(self):
        world = rose(["ab", "ba"])
        moves = world.moves()
        makers(world)
        self.assertEqual(world.moves(), moves)

    def test_somewhat_beyond_the_limits(self):
        words = ["ab" * 5] * 30
        self.assertEqual(rose(words), rose(["ab" * 5]))
        self.assertEqual(put_together(words, made_of(words, "ab" * 10)), "ab" * 10)
        self.assertEqual(parting(words, "a")[0], "away")


if __name__ == "__main__":
    unittest.main()
