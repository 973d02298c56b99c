"""spoorfold.hall: the deeds of a hall, each with its refusals in the order told, undone and done again."""

import random
import unittest

from spoorfold import errors
from spoorfold.errors import (BadName, BadRounds, BadWord, Full, NoLine, NoName, NothingLeft, Stopped, Taken, TooLong,
                              Unproved)
from spoorfold.hall import Hall
from spoorfold.pages import read_page
from spoorfold.papers import shows
from spoorfold.verdicts import alike

NO_WORDS = ["i", "I", "a" * 61, "a b", "-", "a\n"]
NO_NAMES = ["", "abcdefghi", "A", "aB", "a1", "1", "a b", "-", "a\n"]
NO_ROUNDS = [-1, 21, True, False, None, "6", 2.0]
TWENTY = [letter * 2 for letter in "abcdefghijklmnopqrst"]


def stands(hall):
    """All that can be seen of a hall."""
    shelf = [(label, hall.paper(label)) for label in hall.shelf()]
    return (hall.lines(), hall.coming(), hall.words(), shelf, hall.laid(), hall.past(), len(hall), repr(hall))


def hall_with(lines=(), **words):
    """A hall with lines and words by names."""
    hall = Hall()
    for left, right in lines:
        hall.like(left, right)
    for name, word in words.items():
        hall.put(name, word)
    return hall


def full_of_papers():
    """A hall with 12 papers."""
    hall = hall_with([("a", "b")], x="a", y="b", z="c")
    for letter in "abcdefghijkl":
        hall.shelve(letter, "x", "y")
    return hall


class HallTest(unittest.TestCase):

    def refused(self, kind, hall, deed, *things, fields=None, **named):
        """Each refusal leaves all as it stood."""
        ahead = stands(hall)
        with self.assertRaises(kind, msg=(deed, things, named)) as caught:
            getattr(hall, deed)(*things, **named)
        self.assertIs(type(caught.exception), kind)
        self.assertEqual(caught.exception.word, kind.__name__.lower())
        for field, worth in (fields or {}).items():
            self.assertEqual(getattr(caught.exception, field), worth)
        self.assertEqual(stands(hall), ahead)
        return caught.exception


class LikeTest(HallTest):

    def test_ordinary(self):
        hall = Hall()
        self.assertEqual(hall.like("a", "b"), 1)
        self.assertEqual(hall.like("", "aA"), 2)
        self.assertEqual(hall.like("a", "b"), 3)
        self.assertEqual(hall.lines(), [(1, "a", "b"), (2, "", "aA"), (3, "a", "b")])
        self.assertEqual((hall.coming(), len(hall)), (4, 3))

    def test_no_lines(self):
        hall = Hall()
        self.assertEqual((hall.lines(), hall.coming(), hall.words(), hall.shelf(), hall.laid(), hall.past(), len(hall)),
                         ([], 1, [], [], 0, (0, 0), 0))

    def test_sides_of_12_and_of_13_signs(self):
        hall = Hall()
        self.assertEqual(hall.like("a" * 12, "bB" * 6), 1)
        for left, right in [("a" * 13, ""), ("", "a" * 13), ("a" * 13, "a" * 13), ("aA" * 30, "a")]:
            self.refused(TooLong, hall, "like", left, right)

    def test_the_twelfth_and_the_thirteenth_line(self):
        hall = hall_with([("a", "b")] * 11)
        self.assertEqual(hall.like("c", "d"), 12)
        self.refused(Full, hall, "like", "a", "b")
        hall.strike(5)
        self.assertEqual(hall.like("e", "f"), 13)
        self.refused(Full, hall, "like", "a", "b")
        self.assertEqual([number for number, _, _ in hall.lines()], [1, 2, 3, 4, 6, 7, 8, 9, 10, 11, 12, 13])

    def test_the_last_number(self):
        hall = read_page("coming 999999998\n")
        self.assertEqual(hall.like("a", "b"), 999999998)
        self.assertEqual(hall.coming(), 999999999)
        self.refused(Full, hall, "like", "a", "b")
        hall.strike(999999998)
        self.refused(Full, hall, "like", "a", "b")
        hall.undo()
        hall.undo()
        self.assertEqual(hall.like("c", "d"), 999999998)
        self.refused(Full, read_page("coming 999999999\n"), "like", "", "")

    def test_the_refusals_in_their_order(self):
        for hall in [Hall(), hall_with([("a", "b")] * 12), read_page("coming 999999999\n")]:
            for text in NO_WORDS:
                for left, right in [(text, "a"), ("a", text), (text, "a" * 13), ("a" * 13, text), (text, text)]:
                    self.refused(BadWord, hall, "like", left, right)
            for left, right in [("a" * 13, ""), ("", "a" * 13)]:
                self.refused(TooLong, hall, "like", left, right)

    def test_a_number_is_used_once(self):
        hall = hall_with([("a", "b"), ("c", "d")])
        hall.strike(2)
        self.assertEqual(hall.like("c", "d"), 3)
        hall.strike(1)
        hall.strike(3)
        self.assertEqual((hall.lines(), hall.like("e", "f")), ([], 4))

    def test_numbers_used_again_behind_an_undoing(self):
        hall = hall_with([("a", "b"), ("c", "d")])
        hall.undo()
        self.assertEqual((hall.coming(), hall.like("e", "f")), (2, 2))
        hall.strike(2)
        hall.undo()
        hall.undo()
        self.assertEqual(hall.like("g", "h"), 2)
        self.assertEqual(hall.lines(), [(1, "a", "b"), (2, "g", "h")])


class StrikeTest(HallTest):

    def test_no_line(self):
        hall = hall_with([("a", "b"), ("c", "d")])
        hall.strike(1)
        for number in [0, 1, 3, -1, 10, 999999999, 10 ** 12]:
            refusal = self.refused(NoLine, hall, "strike", number, fields={"number": number})
            self.assertIsInstance(refusal, LookupError)
        self.refused(NoLine, hall_with([("a", "b")]), "strike", True)
        self.refused(NoLine, Hall(), "strike", 1, fields={"number": 1})

    def test_labels_that_go(self):
        hall = hall_with([("a", "b"), ("c", "d"), ("e", "f")], x="a", y="b", z="c", w="d", v="ac", u="bd", e="aAa")
        hall.shelve("p", "x", "y")
        hall.shelve("q", "z", "w")
        hall.shelve("both", "v", "u")
        hall.shelve("aa", "y", "x")
        hall.shelve("none", "x", "e")
        self.assertEqual([hall.paper(label)[2] for label in hall.shelf()], [[1], [1, 2], [], [1], [2]])
        self.assertEqual(hall.strike(3), [])
        self.assertEqual(hall.shelf(), ["aa", "both", "none", "p", "q"])
        self.assertEqual(hall.strike(1), ["aa", "both", "p"])
        self.assertEqual(hall.shelf(), ["none", "q"])
        self.assertEqual(hall.strike(2), ["q"])
        self.assertEqual(hall.shelf(), ["none"])
        for shelf in [["none", "q"], ["aa", "both", "none", "p", "q"]]:
            hall.undo()
            self.assertEqual(hall.shelf(), shelf)

    def test_new_lists(self):
        hall = hall_with([("a", "b")], x="a", y="b")
        hall.shelve("p", "x", "y")
        told = hall.strike(1)
        told.clear()
        hall.undo()
        self.assertEqual(hall.strike(1), ["p"])


class NamesTest(HallTest):

    def test_put(self):
        hall = Hall()
        self.assertIsNone(hall.put("b", "ab"))
        self.assertIsNone(hall.put("aa", ""))
        self.assertIsNone(hall.put("abcdefgh", "a" * 60))
        self.assertEqual(hall.words(), [("aa", ""), ("abcdefgh", "a" * 60), ("b", "ab")])
        hall.put("b", "c")
        self.assertEqual((hall.text_of("b"), hall.text_of("aa")), ("c", ""))
        self.assertEqual(len(hall), 0)

    def test_names_of_so_many_letters(self):
        hall = Hall()
        for many in range(12):
            if 1 <= many <= 8:
                hall.put("q" * many, "a")
            else:
                self.refused(BadName, hall, "put", "q" * many, "a")

    def test_the_refusals_in_their_order(self):
        full = hall_with(**{name: "a" for name in TWENTY})
        for hall in [Hall(), full]:
            for name in NO_NAMES:
                for word in ["a", *NO_WORDS]:
                    self.refused(BadName, hall, "put", name, word)
            for text in NO_WORDS:
                self.refused(BadWord, hall, "put", "aa", text)
                self.refused(BadWord, hall, "put", "new", text)
        self.refused(Full, full, "put", "new", "a")

    def test_the_twentieth_and_the_twenty_first_name(self):
        hall = hall_with(**{name: "a" for name in TWENTY[:19]})
        hall.put(TWENTY[19], "b")
        self.refused(Full, hall, "put", "new", "a")
        for name in TWENTY:
            hall.put(name, "c")
        self.assertEqual(hall.words(), [(name, "c") for name in TWENTY])
        hall.forget("cc")
        hall.put("new", "a")
        self.refused(Full, hall, "put", "cc", "a")

    def test_forget(self):
        hall = hall_with(x="a", y="b")
        self.assertIsNone(hall.forget("x"))
        self.assertEqual(hall.words(), [("y", "b")])
        for name in ["x", "z", "", "Y", "y ", "abcdefghi"]:
            self.refused(NoName, hall, "forget", name, fields={"name": name})

    def test_text_of(self):
        hall = hall_with(x="a")
        self.assertEqual(hall.text_of("x"), "a")
        for name in ["y", "", "X", "abcdefghi"]:
            refusal = self.refused(NoName, hall, "text_of", name, fields={"name": name})
            self.assertIsInstance(refusal, LookupError)

    def test_labels_are_no_names_of_words(self):
        hall = hall_with([("a", "b")], x="a", y="b")
        hall.shelve("p", "x", "y")
        self.refused(NoName, hall, "text_of", "p", fields={"name": "p"})
        self.refused(NoName, hall, "forget", "p")
        self.refused(NoName, hall, "unshelve", "x")
        hall.shelve("x", "x", "y")
        hall.forget("x")
        self.assertEqual(hall.shelf(), ["p", "x"])


class ShelveTest(HallTest):

    def need_paper(self, hall, label):
        one, other, numbers, forth, back = hall.paper(label)
        self.assertEqual([type(thing) for thing in hall.paper(label)], [str, str, list, list, list])
        lines = {number: (left, right) for number, left, right in hall.lines()}
        likes = [lines[number] for number in numbers]
        self.assertEqual(numbers, sorted(set(numbers)))
        self.assertIs(shows([(one, one)], likes, forth, one, other), True)
        self.assertIs(shows([(other, other)], likes, back, other, one), True)
        self.assertEqual({row[2] for row in forth + back if row[0] == "like"}, set(range(len(numbers))))

    def test_ordinary(self):
        hall = hall_with([("a", "b"), ("c", "d")], x="a", y="b", z="acC", w="bcC")
        self.assertIsNone(hall.shelve("p", "x", "y"))
        self.assertIsNone(hall.shelve("aa", "z", "w"))
        self.assertEqual(hall.shelf(), ["aa", "p"])
        self.assertEqual(hall.paper("p")[:3], ("a", "b", [1]))
        self.assertEqual(hall.paper("aa")[:2], ("acC", "bcC"))
        for label in hall.shelf():
            self.need_paper(hall, label)

    def test_numbers_are_just_those_that_the_rows_use(self):
        hall = hall_with([("h", "g"), ("a", "b"), ("", "eE"), ("b", "c"), ("c", "d")], x="a", y="c", z="d")
        hall.strike(1)
        hall.strike(3)
        hall.shelve("p", "x", "y")
        hall.shelve("q", "y", "z")
        hall.shelve("r", "x", "x")
        self.assertEqual([hall.paper(label)[2] for label in "pqr"], [[2, 4], [5], []])
        for label in "pqr":
            self.need_paper(hall, label)

    def test_papers_are_those_of_the_verdict(self):
        hall = hall_with([("a", "b"), ("b", "c")], x="ac", y="ca")
        hall.like("ac", "ca")
        hall.shelve("p", "x", "y")
        forth, back = alike("ac", "ca", [("a", "b"), ("b", "c"), ("ac", "ca")])[1:]
        told = hall.paper("p")
        places = {number - 1: place for place, number in enumerate(told[2])}

        def renamed(rows):
            return [(*row[:2], places[row[2]], row[3]) if row[0] == "like" else row for row in rows]
        self.assertEqual(told[3:], (renamed(forth), renamed(back)))

    def test_lots_by_chance(self):
        chance = random.Random(1)
        count = 0
        for _ in range(300):
            def word(most):
                return "".join(chance.choice("aAbB") for _ in range(chance.randint(0, most)))
            hall = hall_with([(word(3), word(3)) for _ in range(6)], x=word(4), y=word(4))
            for number in chance.sample(range(1, 7), 3):
                hall.strike(number)
            rounds = chance.choice([0, 1, 2, 6])
            verdict = alike(hall.text_of("x"), hall.text_of("y"), [row[1:] for row in hall.lines()], rounds=rounds)
            if verdict[0] == "alike":
                hall.shelve("p", "x", "y", rounds=rounds)
                self.need_paper(hall, "p")
                count += 1
            else:
                self.refused(Unproved, hall, "shelve", "p", "x", "y", rounds=rounds, fields={"how": verdict[0]})
        self.assertGreater(count, 60)

    def test_unproved(self):
        hall = hall_with([("b", "bbB")], x="a", y="b", z="bb")
        self.refused(Unproved, hall, "shelve", "p", "x", "y", fields={"how": "unlike"})
        self.refused(Unproved, hall, "shelve", "p", "y", "x", fields={"how": "unlike"})
        self.refused(Unproved, hall, "shelve", "p", "y", "z", fields={"how": "open"})

    def test_rounds(self):
        hall = hall_with([("a", "b"), ("b", "c"), ("c", "d")], x="a", y="d")
        for rounds in [0, 1, 2]:
            self.refused(Unproved, hall, "shelve", "p", "x", "y", rounds=rounds, fields={"how": "open"})
        hall.shelve("p", "x", "y", rounds=3)
        hall.shelve("q", "x", "y", rounds=20)
        hall.shelve("r", "x", "y")
        for label in "pqr":
            self.need_paper(hall, label)
        with self.assertRaises(TypeError):
            hall.shelve("s", "x", "y", 3)

    def test_the_refusals_in_their_order(self):
        hall = full_of_papers()
        fewer = hall.twin()
        fewer.unshelve("l")
        for one, other in [("x", "y"), ("no", "y"), ("x", "z")]:
            for rounds in [6, 21]:
                for name in NO_NAMES:
                    self.refused(BadName, hall, "shelve", name, one, other, rounds=rounds)
                self.refused(Taken, hall, "shelve", "a", one, other, rounds=rounds, fields={"name": "a"})
                self.refused(Taken, fewer, "shelve", "a", one, other, rounds=rounds, fields={"name": "a"})
        for rounds in [6, 21]:
            for one, other, name in [("no", "y", "no"), ("x", "no", "no"), ("no", "nor", "no"), ("", "y", "")]:
                self.refused(NoName, hall, "shelve", "new", one, other, rounds=rounds, fields={"name": name})
        for rounds in NO_ROUNDS:
            for other in ["y", "z"]:
                self.refused(BadRounds, hall, "shelve", "new", "x", other, rounds=rounds)
                self.refused(BadRounds, fewer, "shelve", "new", "x", other, rounds=rounds)
        self.refused(Full, hall, "shelve", "new", "x", "z")
        self.refused(Full, hall, "shelve", "new", "x", "y")
        self.refused(Unproved, fewer, "shelve", "new", "x", "z", fields={"how": "unlike"})
        fewer.shelve("new", "x", "y")
        self.refused(Full, fewer, "shelve", "newer", "x", "y")

    def test_unshelve(self):
        hall = full_of_papers()
        self.assertIsNone(hall.unshelve("c"))
        self.assertEqual(hall.shelf(), list("abdefghijkl"))
        for label in ["c", "x", "", "C", "abcdefghi"]:
            self.refused(NoName, hall, "unshelve", label, fields={"name": label})
            self.refused(NoName, hall, "paper", label, fields={"name": label})
        hall.shelve("c", "x", "y")

    def test_a_paper_stays(self):
        hall = hall_with([("a", "b"), ("c", "d")], x="a", y="b")
        hall.shelve("p", "x", "y")
        ahead = hall.paper("p")
        hall.put("x", "cccc")
        hall.forget("y")
        hall.like("a", "")
        hall.strike(2)
        self.assertEqual(hall.paper("p"), ahead)
        self.need_paper(hall, "p")

    def test_a_told_paper_that_is_changed(self):
        hall = hall_with([("a", "b")], x="a", y="b")
        hall.shelve("p", "x", "y")
        first = hall.paper("p")
        again = (*first[:2], *[list(rows) for rows in first[2:]])
        for rows in first[2:]:
            rows.append("more")
            rows.reverse()
        self.assertEqual(hall.paper("p"), again)
        hall.shelf().clear()
        self.assertEqual(hall.shelf(), ["p"])

    def test_the_same_papers(self):
        for rounds in [2, 6]:
            told = []
            for asked in [False, True]:
                hall = hall_with([("ab", "ba"), ("aa", "")], x="abab", y="bb")
                hall.put("other", "c")
                if asked:
                    hall.alike("x", "y", rounds=rounds)
                    hall.alike("y", "x", rounds=rounds)
                hall.shelve("p", "x", "y", rounds=rounds)
                hall.shelve("q", "x", "y", rounds=rounds)
                told += [hall.paper("p"), hall.paper("q")]
                hall.undo()
                hall.redo()
                told.append(hall.paper("q"))
            self.assertEqual(told, told[:1] * 6)


class TogetherTest(HallTest):

    def test_no_deeds(self):
        hall = hall_with([("a", "b"), ("c", "d")])
        hall.undo()
        ahead = stands(hall)
        self.assertEqual(hall.together([]), [])
        self.assertEqual(stands(hall), ahead)
        self.assertEqual(hall.past(), (1, 1))

    def test_one(self):
        hall = Hall()
        self.assertEqual(hall.together([("like", "a", "b")]), [1])
        self.assertEqual(hall.past(), (1, 0))
        hall.undo()
        self.assertEqual((hall.lines(), hall.past()), ([], (0, 1)))

    def test_several(self):
        hall = Hall()
        deeds = [("like", "a", "b"), ("put", "x", "a"), ("put", "y", "b"), ("shelve", "p", "x", "y"),
                 ("shelve", "q", "y", "x"), ("unshelve", "q"), ("forget", "y"), ("like", "", "c"), ("strike", 1)]
        handed = list(deeds)
        told = hall.together(deeds)
        self.assertEqual(told, [1, None, None, None, None, None, None, 2, ["p"]])
        self.assertEqual(deeds, handed)
        self.assertEqual((hall.lines(), hall.coming(), hall.words(), hall.shelf()),
                         ([(2, "", "c")], 3, [("x", "a")], []))
        self.assertEqual(hall.past(), (1, 0))
        hall.undo()
        self.assertEqual((hall.lines(), hall.coming(), hall.words(), hall.past()), ([], 1, [], (0, 1)))
        hall.redo()
        self.assertEqual((hall.lines(), hall.words(), hall.past()), ([(2, "", "c")], [("x", "a")], (1, 0)))
        deeds.clear()
        told.clear()
        self.assertEqual(hall.lines(), [(2, "", "c")])

    def test_a_refused_one(self):
        good = [("like", "a", "b"), ("put", "x", "a"), ("strike", 2)]
        for bad, kind in [(("like", "i", "a" * 13), "badword"), (("like", "a" * 13, ""), "toolong"),
                          (("strike", 7), "noline"), (("put", "X", "i"), "badname"), (("put", "y", "i"), "badword"),
                          (("forget", "no"), "noname"), (("shelve", "Q", "no", "no"), "badname"),
                          (("shelve", "p", "no", "no"), "taken"), (("shelve", "q", "no", "u"), "noname"),
                          (("shelve", "q", "u", "w"), "unproved"), (("unshelve", "q"), "noname"),
                          (("shelve", "q", "u", "w", 21), "badrounds"), (("shelve", "q", "u", "w", True), "badrounds")]:
            for at in range(4):
                hall = hall_with([("e", "f"), ("g", "h")], u="e", v="f", w="g")
                hall.shelve("p", "u", "v")
                hall.put("last", "a")
                hall.undo()
                hall.alike("u", "w")
                hall.strike(1)
                hall.undo()
                deeds = good[:at] + [bad] + good[at:]
                handed = list(deeds)
                refusal = self.refused(Stopped, hall, "together", deeds, fields={"at": at, "kind": kind})
                self.assertIsInstance(refusal, errors.SpoorError)
                self.assertEqual(deeds, handed)
                self.assertEqual(hall.past(), (6, 1))

    def test_full_on_the_way(self):
        hall = hall_with([("a", "b")] * 10)
        self.refused(Stopped, hall, "together", [("like", "a", "b")] * 3, fields={"at": 2, "kind": "full"})
        self.assertEqual(hall.together([("strike", 1)] + [("like", "a", "b")] * 3), [[], 11, 12, 13])
        hall = hall_with(**{name: "a" for name in TWENTY})
        self.refused(Stopped, hall, "together", [("put", "aa", "b"), ("put", "new", "b")],
                     fields={"at": 1, "kind": "full"})
        self.assertEqual(hall.together([("forget", "aa"), ("put", "new", "b")]), [None, None])
        hall = full_of_papers()
        self.refused(Stopped, hall, "together", [("shelve", "new", "x", "y")], fields={"at": 0, "kind": "full"})

    def test_the_first_refused_one(self):
        self.refused(Stopped, Hall(), "together", [("forget", "x"), ("like", "i", "i")],
                     fields={"at": 0, "kind": "noname"})

    def test_shelve_with_rounds_and_without(self):
        hall = hall_with([("a", "b"), ("b", "c"), ("c", "d")], x="a", y="d")
        self.assertEqual(hall.together([("shelve", "p", "x", "y")]), [None])
        self.refused(Stopped, hall, "together", [("shelve", "q", "x", "y", 2)], fields={"at": 0, "kind": "unproved"})
        self.assertEqual(hall.together([("shelve", "q", "x", "y", 3)]), [None])
        self.assertEqual(hall.shelf(), ["p", "q"])
        chain = [("a", "b"), ("b", "c"), ("c", "d"), ("d", "e"), ("e", "f"), ("f", "g"), ("g", "h")]
        hall = hall_with(chain, x="a", y="g", z="h")
        self.assertEqual(hall.together([("shelve", "p", "x", "y")]), [None])
        self.refused(Stopped, hall, "together", [("shelve", "q", "x", "z")], fields={"at": 0, "kind": "unproved"})
        self.assertEqual(hall.together([("shelve", "q", "x", "z", 7)]), [None])

    def test_shelve_by_the_lines_that_stand_then(self):
        hall = hall_with(x="a", y="b")
        self.refused(Stopped, hall, "together", [("shelve", "p", "x", "y"), ("like", "a", "b")],
                     fields={"at": 0, "kind": "unproved"})
        self.assertEqual(hall.together([("like", "a", "b"), ("shelve", "p", "x", "y"), ("strike", 1)]),
                         [1, None, ["p"]])
        self.assertEqual(hall.laid(), 0)

    def test_numbers_used_again_behind_a_refusal(self):
        hall = Hall()
        self.refused(Stopped, hall, "together", [("like", "a", "b"), ("like", "i", "b")])
        self.assertEqual(hall.like("c", "d"), 1)


class PastTest(HallTest):

    def test_nothing_left(self):
        hall = Hall()
        for deed in ["undo", "redo"]:
            refusal = self.refused(NothingLeft, hall, deed)
            self.assertIsInstance(refusal, errors.Lacking)
        hall.like("a", "b")
        self.refused(NothingLeft, hall, "redo")
        self.assertIsNone(hall.undo())
        self.refused(NothingLeft, hall, "undo")
        self.assertIsNone(hall.redo())
        self.refused(NothingLeft, hall, "redo")

    def test_each_deed(self):
        hall = hall_with([("a", "b")], x="a", y="b")
        deeds = [("like", "c", "d"), ("strike", 2), ("put", "z", "c"), ("put", "z", "d"), ("put", "z", "d"),
                 ("forget", "z"), ("shelve", "p", "x", "y"), ("unshelve", "p"), ("shelve", "p", "x", "y"),
                 ("strike", 1), ("together", [("put", "z", "a"), ("like", "a", "b")])]
        states = [stands(hall)]
        for name, *things in deeds:
            getattr(hall, name)(*things)
            states.append(stands(hall))
        many = len(deeds)

        def without_past(state):
            return state[:5] + state[6:]
        for at in reversed(range(many)):
            hall.undo()
            self.assertEqual(without_past(stands(hall)), without_past(states[at]))
            self.assertEqual(hall.past(), (3 + at, many - at))
        for at in range(1, many + 1):
            hall.redo()
            self.assertEqual(without_past(stands(hall)), without_past(states[at]))
        self.assertEqual(hall.past(), (3 + many, 0))

    def test_a_new_deed_leaves_nothing_to_do_again(self):
        for name, *things in [("like", "c", "d"), ("put", "x", "a"), ("strike", 1), ("forget", "x"),
                              ("shelve", "p", "x", "y"), ("unshelve", "o"), ("together", [("like", "a", "b")])]:
            hall = hall_with([("a", "b")], x="a", y="b")
            hall.shelve("o", "x", "y")
            hall.put("z", "a")
            hall.undo()
            self.assertEqual(hall.past(), (4, 1))
            getattr(hall, name)(*things)
            self.assertEqual(hall.past(), (5, 0))
            self.refused(NothingLeft, hall, "redo")

    def test_a_refused_deed_lets_nothing_go(self):
        hall = hall_with([("a", "b")], x="a")
        hall.undo()
        for name, *things in [("like", "i", "a"), ("like", "a" * 13, "a"), ("strike", 2), ("put", "X", "a"),
                              ("forget", "x"), ("shelve", "p", "x", "y"), ("unshelve", "p"),
                              ("together", [("like", "c", "d"), ("strike", 7)])]:
            with self.assertRaises((errors.SpoorError, errors.Lacking)):
                getattr(hall, name)(*things)
        hall.redo()
        self.assertEqual((hall.words(), hall.past()), ([("x", "a")], (2, 0)))

    def test_questions_are_no_deeds(self):
        hall = hall_with([("a", "b")], x="a", y="b")
        hall.undo()
        hall.alike("x", "x")
        hall.beneath("x", "x")
        hall.supposing([("a", "c")], "x", "x")
        self.assertEqual(hall.past(), (2, 1))

    def test_many_deeds(self):
        hall = Hall()
        for number in range(1, 3001):
            self.assertEqual(hall.like("a", "b"), number)
            hall.strike(number)
        self.assertEqual((hall.past(), hall.coming()), ((6000, 0), 3001))
        for _ in range(6000):
            hall.undo()
        self.assertEqual((hall.past(), hall.coming()), ((0, 6000), 1))
        for _ in range(5999):
            hall.redo()
        self.assertEqual((hall.past(), hall.lines()), ((5999, 1), [(3000, "a", "b")]))


class ToldTest(HallTest):

    def test_new_lists(self):
        hall = hall_with([("a", "b")], x="a")
        hall.lines().clear()
        hall.words().clear()
        self.assertEqual((hall.lines(), hall.words()), ([(1, "a", "b")], [("x", "a")]))
        self.assertEqual([type(thing) for thing in (hall.lines(), hall.words(), hall.shelf(), hall.past())],
                         [list, list, list, tuple])
        self.assertEqual([type(thing) for thing in hall.lines() + hall.words()], [tuple, tuple])

    def test_equal(self):
        one, other = hall_with([("a", "b")], x="a", y="b"), hall_with([("a", "b")], y="b", x="a")
        self.assertTrue(one == other)
        self.assertFalse(one != other)
        one.shelve("p", "x", "y")
        one.alike("x", "y")
        self.assertTrue(one == other)
        for name, *things in [("like", "a", "b"), ("put", "x", "b"), ("put", "z", "a"), ("forget", "x"), ("strike", 1)]:
            getattr(one, name)(*things)
            self.assertFalse(one == other, name)
            self.assertTrue(one != other, name)
            one.undo()
            self.assertTrue(one == other)

    def test_equal_but_for_numbers(self):
        one, other = hall_with([("a", "b"), ("a", "b")]), hall_with([("a", "b"), ("a", "b")])
        one.strike(1)
        other.strike(2)
        self.assertEqual((one.coming(), other.coming()), (3, 3))
        self.assertTrue(one != other)
        other = hall_with([("a", "b")])
        other.strike(1)
        self.assertTrue(other != Hall())
        self.assertTrue(Hall() == Hall())

    def test_equal_to_nothing_else(self):
        hall = hall_with([("a", "b")])
        for thing in [None, 1, "Hall(1 lines, 0 words)", [], [(1, "a", "b")], (), {}, object()]:
            self.assertFalse(hall == thing)
            self.assertTrue(hall != thing)
            self.assertFalse(Hall() == thing)

    def test_len_and_repr(self):
        self.assertEqual((len(Hall()), repr(Hall())), (0, "Hall(0 lines, 0 words)"))
        hall = hall_with([("a", "b"), ("", "")], x="a", y="b", z="")
        self.assertEqual((len(hall), repr(hall)), (2, "Hall(2 lines, 3 words)"))
        hall.strike(1)
        self.assertEqual((len(hall), repr(hall)), (1, "Hall(1 lines, 3 words)"))

    def test_halls_made_apart(self):
        one, other = Hall(), Hall()
        one.like("a", "b")
        one.put("x", "a")
        self.assertEqual(stands(other), stands(Hall()))


if __name__ == "__main__":
    unittest.main()
