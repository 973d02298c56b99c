"""spoorfold.tracks: spots, end, plain word, joined, turned back, within, and what tracks are equal to."""

import itertools
import unittest

import naive
from spoorfold.errors import BadWord
from spoorfold.tracks import Track

# Each with what the document says of it: its spots, its end, its plain word.
TOLD = [
    ("", [""], "", ""),
    ("a", ["", "a"], "a", "aAa"),
    ("A", ["", "A"], "A", "AaA"),
    ("aA", ["", "a"], "", "aA"),
    ("Aa", ["", "A"], "", "Aa"),
    ("aAa", ["", "a"], "a", "aAa"),
    ("ab", ["", "a", "ab"], "ab", "abBAab"),
    ("abB", ["", "a", "ab"], "a", "abBAa"),
    ("abA", ["", "a", "ab", "abA"], "abA", "abAaBAabA"),
    ("aAb", ["", "a", "b"], "b", "aAbBb"),
    ("bBa", ["", "a", "b"], "a", "aAbBa"),
    ("aAA", ["", "a", "A"], "A", "aAAaA"),
    ("bBAa", ["", "A", "b"], "", "AabB"),
    ("BbaaAAcC", ["", "a", "B", "c", "aa"], "", "BbcCaaAA"),
    ("aabBBbA", ["", "a", "aa", "aab", "aaB"], "a", "aabBAAaaBbAAa"),
]


def in_spots(track):
    return (track.spots(), track.end(), track.plain(), len(track), str(track), repr(track))


def partial_moves(places):
    """All dicts that lead some of these places one to one to some of them."""
    for row in itertools.product([None, *places], repeat=len(places)):
        led = [to for to in row if to is not None]
        if len(led) == len(set(led)):
            yield {start: to for start, to in zip(places, row) if to is not None}


class ToldTest(unittest.TestCase):

    def test_spots(self):
        for word, spots, _, _ in TOLD:
            self.assertEqual(Track(word).spots(), spots, word)

    def test_end(self):
        for word, _, end, _ in TOLD:
            self.assertEqual(Track(word).end(), end, word)

    def test_plain(self):
        for word, _, _, plain in TOLD:
            self.assertEqual(Track(word).plain(), plain, word)

    def test_against_the_slow_way(self):
        for word in naive.words_upto(6):
            track = Track(word)
            self.assertEqual(track.spots(), naive.spots(word), word)
            self.assertEqual(track.end(), naive.reduced(word), word)
            self.assertEqual(track.plain(), naive.plain(word), word)

    def test_spots_of_all_letters_rise(self):
        word = "".join(sign + naive.undone(sign) for sign in reversed(naive.RISING))
        self.assertEqual(Track(word).spots(), ["", *naive.RISING])
        self.assertEqual(Track(word).plain(), "".join(sign + naive.undone(sign) for sign in naive.RISING))

    def test_the_plain_word_has_the_same_track(self):
        for word in naive.words_upto(4):
            plain = Track(word).plain()
            self.assertEqual(Track(plain), Track(word), word)
            self.assertEqual(Track(plain).plain(), plain, word)

    def test_the_longest_words(self):
        track = Track("a" * 60)
        self.assertEqual(track.spots(), ["a" * many for many in range(61)])
        self.assertEqual(track.end(), "a" * 60)
        self.assertEqual(Track("a" * 30 + "A" * 30).spots(), ["a" * many for many in range(31)])
        self.assertEqual(Track("a" * 30 + "A" * 30).end(), "")

    def test_a_plain_word_of_more_than_60_signs(self):
        self.assertEqual(Track("a" * 60).plain(), "a" * 60 + "A" * 60 + "a" * 60)
        self.assertEqual(str(Track("b" * 21)), "b" * 21 + "B" * 21 + "b" * 21)
        self.assertEqual(repr(Track("b" * 21)), "Track('" + "b" * 21 + "B" * 21 + "b" * 21 + "')")

    def test_by_name(self):
        self.assertEqual(Track(word="ab").spots(), ["", "a", "ab"])

    def test_bad_words(self):
        for text in ["i", "I", "ia", "aib", "ai", "a b", " ", "-", "a\n", "a" * 61, "aA" * 31, "a" * 60 + "i", "2"]:
            with self.assertRaises(BadWord, msg=text) as caught:
                Track(text)
            self.assertEqual(caught.exception.word, "badword")


class SignsTest(unittest.TestCase):

    def test_len_is_how_many_spots(self):
        for word, spots, _, _ in TOLD:
            self.assertEqual(len(Track(word)), len(spots), word)

    def test_str_is_the_plain_word(self):
        for word, _, _, plain in TOLD:
            self.assertEqual(str(Track(word)), plain, word)

    def test_repr_has_the_plain_word(self):
        for word, _, _, plain in TOLD:
            self.assertEqual(repr(Track(word)), "Track('" + plain + "')", word)
        self.assertEqual(repr(Track("")), "Track('')")

    def test_one_track(self):
        for one, other in [("", ""), ("a", "aAa"), ("aA", "aAaA"), ("aAbB", "bBaA"), ("ab", "abBAab"),
                           ("abB", "abBbB"), ("AabBcC", "cCAabB"), ("aAb", "aAbBaAb")]:
            self.assertIs(Track(one) == Track(other), True, (one, other))
            self.assertIs(Track(one) != Track(other), False, (one, other))
            self.assertEqual(Track(one).plain(), Track(other).plain())

    def test_not_one_track(self):
        same_spots = [("a", "aA"), ("abB", "abBA"), ("ab", "abBA")]
        same_end = [("", "aA"), ("", "Aa"), ("aA", "Aa"), ("a", "abB"), ("aA", "aAbB"), ("aA", "bB")]
        for one, other in same_spots + same_end + [("", "a"), ("a", "b"), ("a", "A"), ("ab", "ba")]:
            self.assertIs(Track(one) == Track(other), False, (one, other))
            self.assertIs(Track(other) == Track(one), False, (one, other))
            self.assertIs(Track(one) != Track(other), True, (one, other))

    def test_one_track_just_where_spots_and_end_are_the_same(self):
        words = list(naive.words_upto(3)) + ["aAbB", "bBaA", "AaaA", "aAAa", "abBA", "aAaAa", "abBAab"]
        for one, other in itertools.product(words, repeat=2):
            same = naive.spots(one) == naive.spots(other) and naive.reduced(one) == naive.reduced(other)
            self.assertIs(Track(one) == Track(other), same, (one, other))
            self.assertIs(Track(one) != Track(other), not same, (one, other))

    def test_equal_to_nothing_else(self):
        track = Track("aA")
        for other in ["aA", ["", "a"], ("", "a"), {"", "a"}, "", None, True, 2, (["", "a"], ""), object(), Track]:
            self.assertIs(track == other, False, other)
            self.assertIs(other == track, False, other)
            self.assertIs(track != other, True, other)

    def test_one_track_does_the_same_in_every_world(self):
        # [6] with all worlds of two places and two letters: what has one track does the same in each of them.
        by_track = {}
        for word in naive.words_upto(4):
            by_track.setdefault(repr(Track(word)), []).append(word)
        moves = list(partial_moves([0, 1]))
        for a, b in itertools.product(moves, repeat=2):
            for words in by_track.values():
                done = {tuple(naive.goes(word, place, {"a": a, "b": b}) for place in (0, 1)) for word in words}
                self.assertEqual(len(done), 1, words)

    def test_unlike_tracks_part_in_a_world(self):
        # [6] the other way about: in the world whose places are the spots of a word, only its own end is come to.
        words = list(naive.words_upto(3))
        for one in words:
            spots = Track(one).spots()
            moves = {letter: {spot: naive.reduced(spot + letter) for spot in spots
                              if naive.reduced(spot + letter) in spots} for letter in "ab"}
            for other in words:
                comes = naive.goes(other, "", moves) == Track(one).end()
                self.assertEqual(comes, Track(one).within(Track(other)), (one, other))


class JoinedTest(unittest.TestCase):

    def test_ordinary(self):
        for one, other in [("", ""), ("a", ""), ("", "a"), ("a", "b"), ("a", "A"), ("A", "a"), ("ab", "Ba"),
                           ("ab", "BA"), ("aA", "bB"), ("abA", "aab"), ("aA", "a"), ("a", "a"), ("ab", "BcC")]:
            self.assertEqual(Track(one).joined(Track(other)), Track(one + other), (one, other))

    def test_told(self):
        track = Track("ab").joined(Track("BcC"))
        self.assertEqual(track.spots(), ["", "a", "ab", "ac"])
        self.assertEqual(track.end(), "a")
        self.assertEqual(track.plain(), "abBAacCAa")
        self.assertEqual(len(track), 4)

    def test_all_small_words(self):
        words = list(naive.words_upto(3))
        tracks = [Track(word) for word in words]
        for one, first in zip(words, tracks):
            for other, second in zip(words, tracks):
                track = first.joined(second)
                self.assertEqual(track.spots(), naive.spots(one + other), (one, other))
                self.assertEqual(track.end(), naive.reduced(one + other), (one, other))
                self.assertEqual(track.plain(), naive.plain(one + other), (one, other))

    def test_to_itself(self):
        track = Track("abA")
        self.assertEqual(track.joined(track), Track("abAabA"))
        self.assertEqual(track, Track("abA"))

    def test_both_stay_as_they_were(self):
        one, other = Track("abB"), Track("cAa")
        ahead = (in_spots(one), in_spots(other))
        joined = one.joined(other)
        told = in_spots(joined)
        joined.spots().append("h")
        joined.joined(one)
        self.assertEqual((in_spots(one), in_spots(other)), ahead)
        self.assertEqual(in_spots(joined), told)

    def test_it_is_a_track(self):
        self.assertIsInstance(Track("a").joined(Track("b")), Track)
        self.assertIsInstance(Track("").joined(Track("")), Track)

    def test_more_than_60_signs_together(self):
        one, other = "aB" * 30, "cD" * 30
        track = Track(one).joined(Track(other))
        self.assertEqual(track.spots(), naive.spots(one + other))
        self.assertEqual(track.end(), one + other)
        self.assertEqual(track.plain(), one + other + naive.undone(one + other) + one + other)
        self.assertEqual(len(track), 121)
        self.assertEqual(str(track), track.plain())
        self.assertEqual(repr(track), "Track('" + track.plain() + "')")

    def test_more_than_60_signs_that_undo_each_other(self):
        track = Track("ab" * 30).joined(Track("BA" * 30))
        self.assertEqual(track.end(), "")
        self.assertEqual(track.spots(), naive.spots("ab" * 30))
        self.assertEqual(track.plain(), "ab" * 30 + "BA" * 30)
        part = Track("ab" * 30).joined(Track("BA" * 29 + "Bc"))
        self.assertEqual(part.spots(), naive.spots("ab" * 30 + "BA" * 29 + "Bc"))
        self.assertEqual(part.end(), "ac")

    def test_many_joined(self):
        word = "abAc" * 15
        track = Track("")
        for _ in range(5):
            track = track.joined(Track(word))
        self.assertEqual(track.end(), word * 5)
        self.assertEqual(len(track), 301)
        self.assertEqual(track.spots(), [(word * 5)[:many] for many in range(301)])
        self.assertEqual(track.joined(track.back()).end(), "")
        self.assertEqual(track.joined(track.back()).spots(), track.spots())

    def test_in_whatever_order_they_are_joined(self):
        one, two, three = Track("a" * 40), Track("A" * 20 + "bB"), Track("c" * 60)
        self.assertEqual(one.joined(two).joined(three), one.joined(two.joined(three)))

    def test_by_name(self):
        self.assertEqual(Track("a").joined(other=Track("b")), Track("ab"))


class BackTest(unittest.TestCase):

    def test_ordinary(self):
        for word in ["", "a", "A", "aA", "ab", "abB", "abA", "aAb", "BbaaAAcC", "abCdeFgH", "h" * 60]:
            self.assertEqual(Track(word).back(), Track(naive.undone(word)), word)

    def test_told(self):
        track = Track("abB").back()
        self.assertEqual(track.spots(), ["", "A", "b"])
        self.assertEqual(track.end(), "A")
        self.assertEqual(track.plain(), "AabBA")

    def test_all_small_words(self):
        for word in naive.words_upto(5):
            track = Track(word).back()
            self.assertEqual(track.spots(), naive.spots(naive.undone(word)), word)
            self.assertEqual(track.end(), naive.undone(naive.reduced(word)), word)
            self.assertEqual(track.plain(), naive.plain(naive.undone(word)), word)

    def test_twice(self):
        for word in ["", "a", "abB", "aAbBC", "abCa"]:
            self.assertEqual(Track(word).back().back(), Track(word))

    def test_it_stays_as_it_was(self):
        track = Track("abB")
        ahead = in_spots(track)
        self.assertIsInstance(track.back(), Track)
        track.back().spots().clear()
        self.assertEqual(in_spots(track), ahead)
        empty = Track("aA")
        empty.back().joined(Track("b"))
        self.assertEqual(in_spots(empty), in_spots(Track("aA")))

    def test_of_more_than_60_signs(self):
        word = "aB" * 30 + "cD" * 30
        track = Track("aB" * 30).joined(Track("cD" * 30)).back()
        self.assertEqual(track.spots(), naive.spots(naive.undone(word)))
        self.assertEqual(track.end(), naive.undone(word))

    def test_joined_and_turned_back(self):
        one, other = Track("abA"), Track("aC")
        self.assertEqual(one.joined(other).back(), other.back().joined(one.back()))


class WithinTest(unittest.TestCase):

    def test_ordinary(self):
        for one, other in [("aA", ""), ("aAbB", "aA"), ("aAbB", "bB"), ("abB", "a"), ("bBa", "a"), ("abBAcCa", "a"),
                           ("AaaA", "aA"), ("aabBBbA", "aaA")]:
            self.assertIs(Track(one).within(Track(other)), True, (one, other))
            self.assertIs(Track(other).within(Track(one)), False, (other, one))

    def test_within_itself(self):
        for word in ["", "a", "aA", "abB", "a" * 60]:
            self.assertIs(Track(word).within(Track(word)), True)
        self.assertIs(Track("aAbB").within(Track("bBaA")), True)

    def test_neither_way(self):
        same_spots = [("a", "aA"), ("ab", "abB"), ("ab", "abBA")]
        for one, other in same_spots + [("a", ""), ("a", "A"), ("aA", "bB"), ("ab", "a"), ("aA", "Aa")]:
            self.assertIs(Track(one).within(Track(other)), False, (one, other))
            self.assertIs(Track(other).within(Track(one)), False, (other, one))

    def test_all_small_words(self):
        words = list(naive.words_upto(3)) + ["aAbB", "abBA", "AaaA", "bBaAa"]
        for one, other in itertools.product(words, repeat=2):
            answer = naive.reduced(one) == naive.reduced(other) and set(naive.spots(other)) <= set(naive.spots(one))
            self.assertIs(Track(one).within(Track(other)), answer, (one, other))

    def test_both_stay_as_they_were(self):
        one, other = Track("aAbB"), Track("aA")
        ahead = (in_spots(one), in_spots(other))
        one.within(other)
        other.within(one)
        self.assertEqual((in_spots(one), in_spots(other)), ahead)

    def test_of_more_than_60_signs(self):
        longer = Track("a" * 60).joined(Track("aA" + "b" * 40))
        shorter = Track("a" * 60).joined(Track("b" * 40))
        self.assertIs(longer.within(shorter), True)
        self.assertIs(shorter.within(longer), False)

    def test_by_name(self):
        self.assertIs(Track("aA").within(other=Track("")), True)


class NewListsTest(unittest.TestCase):

    def test_told_spots_that_are_changed(self):
        track = Track("abB")
        told = track.spots()
        told.append("hh")
        told[0] = "c"
        del told[1]
        self.assertEqual(track.spots(), ["", "a", "ab"])
        self.assertIsNot(track.spots(), track.spots())
        self.assertEqual(in_spots(track), (["", "a", "ab"], "a", "abBAa", 3, "abBAa", "Track('abBAa')"))
        self.assertEqual(track, Track("abB"))
        self.assertIs(track.within(Track("a")), True)

    def test_spots_are_a_list(self):
        for track in [Track("ab"), Track("ab").back(), Track("ab").joined(Track("c"))]:
            self.assertIs(type(track.spots()), list)
            track.spots().clear()
            self.assertEqual(len(track), len(track.spots()))
            self.assertGreater(len(track), 1)

    def test_asking_changes_nothing(self):
        track = Track("abBcA")
        ahead = in_spots(track)
        for _ in range(2):
            track.spots(), track.end(), track.plain(), track.back(), track.joined(track), track.within(track)
            self.assertEqual(in_spots(track), ahead)

    def test_tracks_made_apart(self):
        one, other = Track("ab"), Track("ab")
        one.joined(Track("h"))
        one.spots().append("h")
        self.assertEqual(one, other)
        self.assertEqual(Track("ab"), other)


if __name__ == "__main__":
    unittest.main()
