"""spoorfold.pages: halls written down and read again."""

import random
import unittest

from spoorfold.errors import BadPage, SpoorError
from spoorfold.hall import Hall
from spoorfold.pages import page, read_page

NAMES = [letter * 2 for letter in "abcdefghijklmnopqrstu"]


def some_halls(many, seed):
    chance = random.Random(seed)
    for _ in range(many):
        def word(most):
            return "".join(chance.choice("abcdefghABCDEFGH") for _ in range(chance.randint(0, most)))
        hall = Hall()
        for _ in range(chance.randint(0, 12)):
            hall.like(word(12), word(12))
        for number in chance.sample(range(1, len(hall) + 1), chance.randint(0, len(hall))):
            hall.strike(number)
        for name in chance.sample(NAMES, chance.randint(0, 20)):
            hall.put(name, word(60))
        yield hall


class PageTest(unittest.TestCase):

    def test_ordinary(self):
        hall = Hall()
        self.assertEqual(page(hall), "coming 1\n")
        hall.like("a", "")
        hall.like("", "bB")
        hall.like("", "")
        hall.put("b", "")
        hall.put("aa", "abA")
        self.assertEqual(page(hall), "coming 4\nlike 1 a -\nlike 2 - bB\nlike 3 - -\nword aa abA\nword b -\n")
        hall.strike(1)
        hall.forget("aa")
        self.assertEqual(page(hall), "coming 4\nlike 2 - bB\nlike 3 - -\nword b -\n")

    def test_the_shelf_and_what_was_is_not_on_it(self):
        hall = read_page("coming 2\nlike 1 a b\nword x a\nword y b\n")
        text = page(hall)
        hall.shelve("p", "x", "y")
        hall.alike("x", "y")
        hall.put("z", "c")
        hall.undo()
        self.assertEqual(page(hall), text)

    def test_there_and_back(self):
        for hall in some_halls(80, 1):
            text = page(hall)
            again = read_page(text)
            self.assertIs(type(again), Hall)
            self.assertTrue(again == hall)
            self.assertEqual(page(again), text)
            self.assertEqual((again.past(), again.shelf(), again.laid()), ((0, 0), [], 0))

    def test_asking_changes_nothing(self):
        for hall in some_halls(10, 2):
            ahead = (hall.lines(), hall.words(), hall.past(), hall.laid())
            page(hall)
            self.assertEqual((hall.lines(), hall.words(), hall.past(), hall.laid()), ahead)

    def test_by_name(self):
        self.assertEqual(page(hall=Hall()), "coming 1\n")
        self.assertTrue(read_page(text="coming 1\n") == Hall())


class ReadTest(unittest.TestCase):

    def refused(self, text, row):
        with self.assertRaises(BadPage, msg=repr(text)) as caught:
            read_page(text)
        self.assertEqual((caught.exception.row, caught.exception.word), (row, "badpage"), repr(text))
        self.assertIsInstance(caught.exception, SpoorError)

    def test_a_hall_that_is_read(self):
        hall = read_page("coming 8\nlike 2 a -\nlike 7 - bB\nword aa abA\nword b -\n")
        self.assertEqual(hall.lines(), [(2, "a", ""), (7, "", "bB")])
        self.assertEqual((hall.coming(), hall.words()), (8, [("aa", "abA"), ("b", "")]))
        self.assertEqual((hall.past(), hall.shelf(), hall.laid(), len(hall)), ((0, 0), [], 0, 2))
        self.assertEqual(hall.like("c", "d"), 8)
        hall.undo()
        self.assertEqual(hall.past(), (0, 1))

    def test_edges(self):
        self.assertEqual(read_page("coming 999999999\n").coming(), 999999999)
        hall = read_page("coming 999999999\nlike 999999998 a b\n")
        self.assertEqual(hall.lines(), [(999999998, "a", "b")])
        self.assertEqual(read_page("coming 2\nlike 1 - -\n").lines(), [(1, "", "")])
        side, word = "aA" * 6, "hH" * 30
        self.assertEqual(read_page(f"coming 2\nlike 1 {side} {side}\n").lines(), [(1, side, side)])
        self.assertEqual(read_page(f"coming 1\nword abcdefgh {word}\n").words(), [("abcdefgh", word)])
        self.assertEqual(read_page("coming 1\nword aa a\nword b b\nword ba a\n").words(),
                         [("aa", "a"), ("b", "b"), ("ba", "a")])

    def test_no_rows(self):
        self.refused("", 0)
        self.refused("\n", 0)
        self.refused("\n\n", 0)
        self.refused("\ncoming 1\n", 0)

    def test_the_coming_number(self):
        for number in ["0", "01", "00", "1000000000", "1234567890", "-1", "+1", "1.", "a", "-", "", "1_0", "0x1", " 1",
                       "000000001", "1 ", "1 1"]:
            self.refused(f"coming {number}\n", 0)
            self.refused(f"coming {number}\nlike 1 a b\n", 0)
        for row in ["coming", "Coming 1", "come 1", "coming1", " coming 1", "1", "like 1 a b", "word a a", "coming\t1",
                    "coming  1", "coming 1 2"]:
            self.refused(f"{row}\n", 0)
        self.refused("like 1 a b\nword x a\n", 0)

    def test_rows_of_another_form(self):
        ahead = "coming 5\nlike 1 a b\n"
        for row in ["", " ", "like", "like 2", "like 2 a", "like 2 a b c", "like  2 a b", "like 2  a b", "like 2 a  b",
                    "like 2 a b ", " like 2 a b", "like 2 i a", "like 2 a i", "like 2 -- a", "like 2 a -a", "like 2 a ",
                    "Like 2 a b", "line 2 a b", "like a b", "coming 5", "like two a b", "like 02 a b", "like +2 a b",
                    "like 2. a b", "like 2\ta b", "like -2 a b", "word", "word x", "word x a b", "word  x a", "word x  a",
                    "word x a ", " word x a", "word X a", "word x1 a", "word abcdefghi a", "word - a", "word x i",
                    "word x --", "word x ", "Word x a", "put x a", "word x " + "a" * 61, "like 2 a " + "b" * 13,
                    "like 2 " + "a" * 13 + " b", "like 1234567890 a b", "like 0000000002 a b", "\r"]:
            self.refused(f"{ahead}{row}\n", 2)
            self.refused(f"{ahead}{row}\nword zz a\n", 2)

    def test_numbers_of_lines(self):
        for rows, row in [(["like 0 a b"], 1), (["like 5 a b"], 1), (["like 6 a b"], 1), (["like 999999999 a b"], 1),
                          (["like 1 a b", "like 1 a b"], 2), (["like 3 a b", "like 2 a b"], 2),
                          (["like 3 a b", "like 4 a b", "like 5 a b"], 3), (["like 1 a b", "like 0 a b"], 2)]:
            self.refused("".join(f"{text}\n" for text in ["coming 5", *rows]), row)
        self.refused("coming 1\nlike 1 a b\n", 1)
        read_page("coming 5\nlike 4 a b\n")

    def test_names(self):
        for rows, row in [(["word b a", "word b a"], 2), (["word b a", "word a a"], 2), (["word b a", "word aa a"], 2),
                          (["word a a", "word c a", "word b a"], 3)]:
            self.refused("".join(f"{text}\n" for text in ["coming 1", *rows]), row)

    def test_lines_behind_words(self):
        self.refused("coming 5\nword x a\nlike 1 a b\n", 2)
        self.refused("coming 5\nlike 1 a b\nword x a\nlike 2 a b\nword y a\n", 3)

    def test_too_many(self):
        rows = ["coming 99"] + [f"like {number} a b" for number in range(1, 14)]
        read_page("".join(f"{row}\n" for row in rows[:13]))
        self.refused("".join(f"{row}\n" for row in rows), 13)
        rows = ["coming 99"] + [f"word {name} a" for name in NAMES]
        read_page("".join(f"{row}\n" for row in rows[:21]))
        self.refused("".join(f"{row}\n" for row in rows), 21)
        rows = ["coming 99"] + [f"like {number} a b" for number in range(1, 13)] + [f"word {name} a" for name in NAMES]
        self.assertEqual(repr(read_page("".join(f"{row}\n" for row in rows[:-1]))), "Hall(12 lines, 20 words)")
        self.refused("".join(f"{row}\n" for row in rows), 33)

    def test_without_its_line_feed(self):
        self.refused("coming 1", 0)
        self.refused("coming", 0)
        self.refused("coming 2\nlike 1 a b", 1)
        self.refused("coming 2\nlike 1 a b\nword x a", 2)
        self.refused("coming 2\nlike 1 a b\nword x a\n ", 3)
        self.refused("coming 2\nlike 1 a b\nword x a\nmore", 3)

    def test_an_empty_row(self):
        self.refused("coming 1\n\n", 1)
        self.refused("coming 2\n\nlike 1 a b\n", 1)
        self.refused("coming 2\nlike 1 a b\n\n\n", 2)

    def test_the_first_wrong_row(self):
        self.refused("coming 3\nlike 3 a b\nlike x\nword X", 1)
        self.refused("coming 3\nlike 1 a b\nlike x\nword X", 2)
        self.refused("coming 0\nlike 3 a b", 0)

    def test_each_page_without_one_sign_or_row(self):
        """What is read is just what is written."""
        text = "coming 12\nlike 2 a -\nlike 10 - bB\nword aa abA\nword b -\n"
        for at in range(len(text)):
            for other in [text[:at] + text[at + 1:], text[:at] + " " + text[at:], text[:at] + "0" + text[at:],
                          text[:at] + "\n" + text[at:], text[:at]]:
                try:
                    hall = read_page(other)
                except BadPage as refusal:
                    self.assertIn(refusal.row, range(other.count("\n") + 1))
                else:
                    self.assertEqual(page(hall), other)

    def test_halls_read_apart(self):
        text = "coming 2\nlike 1 a b\n"
        one, other = read_page(text), read_page(text)
        one.like("c", "d")
        self.assertEqual(len(other), 1)


if __name__ == "__main__":
    unittest.main()
