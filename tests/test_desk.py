"""spoorfold.desk: rows of words and their answers."""

import unittest

from spoorfold.desk import Desk
from spoorfold.hall import Hall
from spoorfold.pages import page, read_page


def talk(desk, text):
    """The answers to rows."""
    return [desk.say(row) for row in text.split("\n")]


class DeskTest(unittest.TestCase):

    def test_each_row(self):
        desk = Desk()
        for row, answer in [
            ("lines", "none"), ("words", "none"), ("shelf", "none"), ("laid", "0"),
            ("like a b", "1"), ("like c -", "2"), ("like - -", "3"), ("lines", "1 2 3"),
            ("word x a", "done"), ("word y b", "done"), ("word aa -", "done"), ("word z cAac", "done"),
            ("words", "aa x y z"),
            ("ask x y", "alike"), ("ask x z", "unlike"), ("under x y", "follows"), ("under x z", "fails"),
            ("laid", "3"),
            ("plain x", "aAa"), ("plain aa", "-"), ("plain z", "cAaCccCCcc"), ("short z", "cc"), ("short aa", "-"),
            ("shelve p x y", "done"), ("shelve b y x", "done"), ("shelve none x x", "done"), ("shelf", "b none p"),
            ("strike 2", "none"), ("strike 1", "b p"), ("shelf", "none"), ("lines", "3"),
            ("undo", "done"), ("shelf", "b none p"), ("unshelve b", "done"), ("shelf", "none p"),
            ("undo", "done"), ("redo", "done"), ("shelf", "none p"), ("forget aa", "done"), ("words", "x y z"),
            ("strike 3", "none"), ("lines", "1"), ("laid", "3"), ("ask x y", "alike"), ("laid", "5"),
        ]:
            self.assertEqual(desk.say(row), answer, row)

    def test_open(self):
        desk = Desk()
        self.assertEqual(talk(desk, "like b bbB\nword x b\nword y bb\nask x y\nunder x y\nshelve p x y"),
                         ["1", "done", "done", "open", "open", "no unproved"])

    def test_refusals(self):
        desk = Desk()
        for row, answer in [
            ("undo", "no nothingleft"), ("redo", "no nothingleft"), ("strike 1", "no noline"), ("strike 0", "no noline"),
            ("strike 999999999", "no noline"), ("like i a", "no badword"), ("like a --", "no badword"),
            ("like " + "a" * 13 + " a", "no toolong"), ("like a " + "a" * 61, "no badword"), ("word X a", "no badname"),
            ("word - a", "no badname"), ("word x i", "no badword"), ("word abcdefghi a", "no badname"),
            ("forget x", "no noname"), ("forget -", "no noname"), ("shelve P x y", "no badname"),
            ("shelve p x y", "no noname"), ("unshelve p", "no noname"), ("ask x y", "no noname"),
            ("under x y", "no noname"), ("plain x", "no noname"), ("short -", "no noname"), ("ask - -", "no noname"),
        ]:
            self.assertEqual(desk.say(row), answer, row)
        self.assertEqual(desk.hall, Hall())
        talk(desk, "like a b\nword x a\nword y b\nword z c\nshelve p x y")
        self.assertEqual(talk(desk, "shelve p x y\nshelve q x z"), ["no taken", "no unproved"])
        for _ in range(11):
            desk.say("like a b")
        self.assertEqual(desk.say("like a b"), "no full")

    def test_words_too_few_or_too_many(self):
        desk = Desk()
        desk.say("like a b")
        desk.say("word x a")
        desk.say("shelve p x x")
        ahead = page(desk.hall)
        for word, many in {"like": 2, "strike": 1, "word": 2, "forget": 1, "shelve": 3, "unshelve": 1, "undo": 0,
                           "redo": 0, "ask": 2, "under": 2, "plain": 1, "short": 1, "lines": 0, "words": 0, "shelf": 0,
                           "laid": 0}.items():
            for count in range(6):
                row = " ".join([word] + ["x"] * count)
                if count != many:
                    self.assertEqual(desk.say(row), "what", row)
        self.assertEqual((page(desk.hall), desk.hall.past(), desk.hall.shelf()), (ahead, (3, 0), ["p"]))

    def test_blanks(self):
        desk = Desk()
        for row in ["", " ", "  ", " undo", "undo ", "like  a b", "like a  b", " like a b", "like a b ", "like a ",
                    "like  a", "word x ", "lines ", " lines", "strike  1", "strike 1 ", "forget ", "shelve  p x y"]:
            self.assertEqual(desk.say(row), "what", row)
        self.assertEqual(desk.hall.past(), (0, 0))

    def test_unknown_words(self):
        desk = Desk()
        for row in ["hello", "Like a b", "LIKE a b", "put x a", "what", "no", "like\ta b", "together", "twin", "page",
                    "beneath x y", "alike x y", "-", "likes", "coming", "lay", "none", "done"]:
            self.assertEqual(desk.say(row), "what", row)

    def test_numbers_as_they_must_not_be_written(self):
        desk = Desk()
        desk.say("like a b")
        for number in ["01", "001", "+1", "-1", "1.", "1.0", "one", "-", "0x1", "1_0", "00", "1000000000", "0000000001",
                       "1a", "a1", "10000000000000000000"]:
            self.assertEqual(desk.say(f"strike {number}"), "what", number)
        self.assertEqual((len(desk.hall), desk.say("strike 1")), (1, "none"))

    def test_a_dash_in_rows(self):
        desk = Desk()
        talk(desk, "like - aA\nlike a -\nword x -")
        self.assertEqual(desk.hall.lines(), [(1, "", "aA"), (2, "a", "")])
        self.assertEqual(desk.hall.words(), [("x", "")])

    def test_rounds_that_are_told_where_none_are_handed_in(self):
        desk = Desk(hall=read_page("coming 8\nlike 1 a b\nlike 2 b c\nlike 3 c d\nlike 4 d e\nlike 5 e f\nlike 6 f g\n"
                                   "like 7 g h\nword x a\nword y g\nword z h\n"))
        self.assertEqual(talk(desk, "ask x y\nask x z\nunder x z\nshelve p x y\nshelve q x z"),
                         ["alike", "open", "open", "done", "no unproved"])

    def test_the_hall(self):
        hall = Hall()
        desk = Desk(hall=hall)
        self.assertIs(desk.hall, hall)
        desk.say("like a b")
        self.assertEqual(hall.lines(), [(1, "a", "b")])
        hall.like("c", "d")
        self.assertEqual(desk.say("lines"), "1 2")

    def test_one_of_its_own(self):
        one, other = Desk(), Desk(hall=None)
        self.assertIs(type(one.hall), Hall)
        one.say("like a b")
        self.assertEqual((one.say("lines"), other.say("lines")), ("1", "none"))
        with self.assertRaises(TypeError):
            Desk(Hall())

    def test_two_desks_of_one_hall(self):
        hall = Hall()
        one, other = Desk(hall=hall), Desk(hall=hall)
        self.assertEqual((one.say("like a b"), other.say("like c d")), ("1", "2"))
        self.assertEqual((one.say("undo"), other.say("lines"), other.say("redo"), one.say("lines")),
                         ("done", "1", "done", "1 2"))

    def test_by_name(self):
        self.assertEqual(Desk(hall=Hall()).say(row="lines"), "none")

    def test_asking_changes_nothing_but_laid(self):
        desk = Desk()
        talk(desk, "like a b\nword x a\nword y b\nshelve p x y\nword z c\nundo")
        ahead = (page(desk.hall), desk.hall.past(), desk.hall.shelf())
        talk(desk, "ask x y\nunder x y\nplain x\nshort x\nlines\nwords\nshelf\nlaid\nask x no\nwhat")
        self.assertEqual((page(desk.hall), desk.hall.past(), desk.hall.shelf()), ahead)
        self.assertEqual(desk.say("laid"), "2")


if __name__ == "__main__":
    unittest.main()
