"""spoorfold.hall: its questions, the webs that it keeps and counts, and its twins; all against a slow hall."""

import random
import unittest

from spoorfold import errors
from spoorfold.errors import BadRounds, BadWord, NoName, NothingLeft
from spoorfold.hall import Hall
from spoorfold.papers import shows
from spoorfold.verdicts import alike, beneath
from spoorfold.worlds import World

NO_WORDS = ["i", "I", "a" * 61, "a b", "-", "a\n"]
NO_ROUNDS = [-1, 21, True, False, None, "6", 2.0]


def hall_with(lines=(), **words):
    """A hall with lines and words by names."""
    hall = Hall()
    for left, right in lines:
        hall.like(left, right)
    for name, word in words.items():
        hall.put(name, word)
    return hall


def pairs(hall):
    return [(left, right) for _, left, right in hall.lines()]


def stands(hall):
    """All that can be seen of a hall."""
    shelf = [(label, hall.paper(label)) for label in hall.shelf()]
    return (hall.lines(), hall.coming(), hall.words(), shelf, hall.laid(), hall.past(), len(hall), repr(hall))


class AskedTest(unittest.TestCase):

    def test_alike(self):
        hall = hall_with([("a", "b"), ("b", "bbB")], x="a", y="b", z="c", w="aA", v="", u="bb")
        for one in "xyzwvu":
            for other in "xyzwvu":
                for rounds in [0, 1, 6, 20]:
                    expected = alike(hall.text_of(one), hall.text_of(other), pairs(hall), rounds=rounds)
                    self.assertEqual(hall.alike(one, other, rounds=rounds), expected)
        self.assertEqual(hall.alike("x", "y")[0], "alike")
        self.assertEqual(hall.alike("x", "y"), hall.alike("x", "y", rounds=6))
        self.assertEqual(hall.alike("z", "x")[:2], ("unlike", 0))
        self.assertEqual(hall.alike("w", "v")[:2], ("unlike", 1))
        self.assertEqual(hall.alike("y", "u"), ("open",))

    def test_beneath(self):
        hall = hall_with([("a", "b"), ("b", "bbB")], x="a", y="b", z="c", w="aA", v="")
        for one in "xyzwv":
            for other in "xyzwv":
                for rounds in [0, 1, 6, 20]:
                    expected = beneath(hall.text_of(one), hall.text_of(other), pairs(hall), rounds=rounds)
                    self.assertEqual(hall.beneath(one, other, rounds=rounds), expected)
        self.assertEqual(hall.beneath("w", "v")[0], "follows")
        self.assertEqual(hall.beneath("v", "w"), ("fails", World(1, [])))
        self.assertEqual(hall.beneath("y", "z")[0], "open")

    def test_papers_name_lines_by_their_place_from_0(self):
        hall = hall_with([("h", "h"), ("a", "b"), ("g", "g"), ("b", "c")], x="a", y="c")
        hall.strike(1)
        hall.strike(3)
        kind, forth, back = hall.alike("x", "y")
        self.assertEqual(kind, "alike")
        self.assertIs(shows([("a", "a")], [("a", "b"), ("b", "c")], forth, "a", "c"), True)
        self.assertIs(shows([("c", "c")], [("a", "b"), ("b", "c")], back, "c", "a"), True)

    def test_supposing(self):
        hall = hall_with([("a", "b")], x="a", y="c", z="b")
        self.assertEqual(hall.supposing([], "x", "y")[0], "unlike")
        self.assertEqual(hall.supposing([("b", "c")], "x", "y"), alike("a", "c", [("a", "b"), ("b", "c")]))
        self.assertEqual(hall.supposing([("b", "c")], "x", "y")[0], "alike")
        self.assertEqual(hall.supposing([("b", "c"), ("c", "ccC")], "y", "z", rounds=1)[0], "alike")
        many = [("a", "b")] + [("a" * number, "b" * number) for number in range(1, 13)]
        self.assertEqual(hall.supposing(many[1:], "x", "z", rounds=20), alike("a", "b", many, rounds=20))
        likes = [("b", "c")]
        hall.supposing(likes, "x", "y")
        self.assertEqual(likes, [("b", "c")])
        self.assertEqual((hall.lines(), hall.laid()), ([(1, "a", "b")], 0))

    def test_breaks(self):
        world = World(2, [("a", 0, 1), ("b", 0, 1), ("c", 1, 0)])
        hall = Hall()
        self.assertIsNone(hall.breaks(world))
        hall.like("c", "d")
        hall.like("a", "b")
        self.assertEqual(hall.breaks(world), (1, 1))
        hall.strike(1)
        self.assertIsNone(hall.breaks(world))
        hall.like("a", "C")
        hall.like("", "ac")
        hall.like("", "e")
        self.assertEqual(hall.breaks(world), (4, 1))
        hall.strike(4)
        self.assertEqual(hall.breaks(world), (5, 0))
        self.assertIs(type(hall.breaks(world)), tuple)
        self.assertEqual(hall.laid(), 0)

    def test_unlike_worlds_break_no_line(self):
        hall = hall_with([("aa", ""), ("ab", "ba")], x="a", y="b")
        world = hall.alike("x", "y")[2]
        self.assertIsNone(hall.breaks(world))

    def test_refusals_in_their_order(self):
        hall = hall_with([("a", "b")], x="a", y="b")
        hall.put("z", "c")
        hall.undo()
        ahead = stands(hall)

        def refused(kind, asked, *things, **named):
            with self.assertRaises(kind, msg=(things, named)) as caught:
                asked(*things, **named)
            self.assertEqual(stands(hall), ahead)
            return caught.exception
        for rounds in [6, 21]:
            for one, other, name in [("no", "y", "no"), ("x", "no", "no"), ("no", "nor", "no"), ("", "Y", "")]:
                for asked in [hall.alike, hall.beneath]:
                    self.assertEqual(refused(NoName, asked, one, other, rounds=rounds).name, name)
                for likes in [[], [("i", "a")]]:
                    self.assertEqual(refused(NoName, hall.supposing, likes, one, other, rounds=rounds).name, name)
        for text in NO_WORDS:
            for likes in [[(text, "a")], [("a", text)], [("a", "b"), ("", text)]]:
                for rounds in [6, *NO_ROUNDS]:
                    refused(BadWord, hall.supposing, likes, "x", "y", rounds=rounds)
        for rounds in NO_ROUNDS:
            refused(BadRounds, hall.alike, "x", "y", rounds=rounds)
            refused(BadRounds, hall.beneath, "x", "y", rounds=rounds)
            refused(BadRounds, hall.supposing, [("a", "c")], "x", "y", rounds=rounds)

    def test_rounds_that_are_none_though_webs_are_kept(self):
        hall = hall_with([("a", "b")], x="a", y="b")
        for rounds, others in [(1, [True, 1.0]), (0, [False, 0.0]), (6, [6.0])]:
            hall.alike("x", "y", rounds=rounds)
            for other in others:
                for asked in [hall.alike, hall.beneath]:
                    with self.assertRaises(BadRounds):
                        asked("x", "y", rounds=other)

    def test_by_place_and_by_name(self):
        hall = hall_with([("a", "b")], x="a", y="b")
        self.assertEqual(hall.alike(other="y", one="x", rounds=2)[0], "alike")
        self.assertEqual(hall.beneath(other="y", one="x", rounds=2)[0], "follows")
        self.assertEqual(hall.supposing(other="y", likenesses=[], one="x", rounds=2)[0], "alike")
        for asked in [lambda: hall.alike("x", "y", 6), lambda: hall.beneath("x", "y", 6),
                      lambda: hall.supposing([], "x", "y", 6)]:
            with self.assertRaises(TypeError):
                asked()

    def test_told_lists_are_new(self):
        hall = hall_with([("a", "b")], x="a", y="b")
        first = hall.alike("x", "y")
        again = (first[0], list(first[1]), list(first[2]))
        first[1].clear()
        first[2].clear()
        self.assertEqual(hall.alike("x", "y"), again)
        paper = hall.beneath("x", "y")[1]
        paper.clear()
        self.assertEqual(hall.beneath("x", "y"), ("follows", again[1]))


class LaidTest(unittest.TestCase):

    def need_laid(self, hall, *counts):
        """Ask alike of x and y, and tell laid, as often as there are counts."""
        told = []
        for _ in counts:
            hall.alike("x", "y")
            told.append(hall.laid())
        self.assertEqual(tuple(told), counts)

    def test_what_is_needed(self):
        hall = hall_with([("a", "b")], x="a", y="b", z="c")
        self.assertEqual(hall.laid(), 0)
        hall.beneath("x", "y")
        self.assertEqual(hall.laid(), 1)
        hall.beneath("x", "z")
        self.assertEqual(hall.laid(), 1)
        hall.alike("x", "y")
        self.assertEqual(hall.laid(), 2)
        hall.alike("y", "x")
        hall.beneath("y", "x")
        self.assertEqual(hall.laid(), 2)
        hall.alike("x", "z")
        self.assertEqual(hall.laid(), 3)

    def test_both_are_needed_though_the_first_one_tells(self):
        hall = hall_with(x="a", y="b")
        self.assertEqual(hall.alike("x", "y")[:2], ("unlike", 0))
        self.assertEqual(hall.laid(), 2)

    def test_two_words_of_one_text(self):
        hall = hall_with([("a", "b")], x="a", y="a", z="aAa")
        self.need_laid(hall, 1, 1)
        hall.beneath("y", "x")
        hall.alike("x", "x")
        self.assertEqual(hall.laid(), 1)
        hall.alike("x", "z")
        self.assertEqual(hall.laid(), 2)

    def test_a_word_told_anew(self):
        hall = hall_with([("a", "b")], x="a", y="b")
        self.need_laid(hall, 2)
        hall.put("x", "b")
        self.need_laid(hall, 2)
        hall.put("x", "c")
        self.need_laid(hall, 3)
        hall.put("x", "a")
        self.need_laid(hall, 3)
        hall.forget("x")
        hall.put("x", "a")
        self.need_laid(hall, 3)

    def test_other_rounds(self):
        hall = hall_with(x="a", y="b")
        for many, rounds in enumerate([6, 0, 1, 20]):
            hall.alike("x", "y", rounds=rounds)
            self.assertEqual(hall.laid(), 2 * many + 2)
        for rounds in [6, 0, 1, 20]:
            hall.alike("x", "y", rounds=rounds)
            hall.beneath("y", "x", rounds=rounds)
        self.assertEqual(hall.laid(), 8)

    def test_behind_each_kind_of_deed(self):
        # Deeds, and whether they leave other lines.
        for name, things, other in [
            ("like", ("c", "d"), True), ("like", ("a", "b"), True), ("strike", (1,), True), ("put", ("z", "c"), False),
            ("put", ("x", "a"), False), ("forget", ("w",), False), ("shelve", ("q", "x", "y"), False),
            ("unshelve", ("p",), False), ("together", ([],), False), ("together", ([("put", "z", "a")],), False),
            ("together", ([("like", "c", "d"), ("put", "z", "a")],), True),
            ("together", ([("like", "c", "d"), ("strike", 2)],), False),
            ("together", ([("strike", 1), ("like", "a", "b")],), True),
        ]:
            hall = hall_with([("a", "b")], x="a", y="b", w="c")
            hall.shelve("p", "x", "y")
            self.need_laid(hall, 2)
            getattr(hall, name)(*things)
            count = 4 if other else 2
            self.need_laid(hall, count, count)
            if things != ([],):
                hall.undo()
                count += 2 if other else 0
                self.need_laid(hall, count, count)
                hall.redo()
                count += 2 if other else 0
                self.need_laid(hall, count)

    def test_deeds_one_by_one_that_leave_the_lines_as_they_stood(self):
        hall = hall_with([("a", "b")], x="a", y="b")
        self.need_laid(hall, 2)
        hall.like("c", "d")
        hall.strike(2)
        self.need_laid(hall, 4)
        hall.like("c", "d")
        hall.undo()
        self.need_laid(hall, 6)

    def test_the_same_line_by_another_number(self):
        hall = hall_with([("a", "b")], x="a", y="b")
        self.need_laid(hall, 2)
        hall.together([("strike", 1), ("like", "a", "b")])
        self.assertEqual(hall.lines(), [(2, "a", "b")])
        self.need_laid(hall, 4)

    def test_a_refused_one(self):
        hall = hall_with([("a", "b")], x="a", y="b")
        self.need_laid(hall, 2)
        for name, *things in [("like", "i", "a"), ("strike", 7), ("put", "X", "a"), ("forget", "z"), ("redo",),
                              ("together", [("like", "c", "d"), ("strike", 7)]), ("shelve", "p", "x", "z"),
                              ("alike", "x", "z"), ("beneath", "z", "x")]:
            with self.assertRaises((errors.SpoorError, errors.Lacking)):
                getattr(hall, name)(*things)
            self.need_laid(hall, 2)

    def test_supposing_and_shelve_keep_and_count_nothing(self):
        hall = hall_with([("a", "b")], x="a", y="b")
        for _ in range(2):
            hall.supposing([], "x", "y")
            hall.supposing([("c", "d")], "x", "y")
        hall.shelve("p", "x", "y")
        hall.together([("shelve", "q", "x", "y")])
        self.assertEqual(hall.laid(), 0)
        self.need_laid(hall, 2)
        hall.supposing([], "x", "y", rounds=3)
        hall.shelve("r", "x", "y", rounds=3)
        self.assertEqual(hall.laid(), 2)
        hall.alike("x", "y", rounds=3)
        self.assertEqual(hall.laid(), 4)

    def test_kept_webs_answer_by_the_lines_that_stand(self):
        hall = hall_with([("a", "b")], x="a", y="b")
        self.assertEqual(hall.alike("x", "y")[0], "alike")
        hall.strike(1)
        self.assertEqual(hall.alike("x", "y")[0], "unlike")
        hall.undo()
        self.assertEqual(hall.alike("x", "y")[0], "alike")
        hall.undo()
        hall.undo()
        hall.undo()
        hall.put("x", "a")
        hall.put("y", "b")
        self.assertEqual(hall.alike("x", "y")[0], "unlike")


class TwinTest(unittest.TestCase):

    def made(self):
        hall = hall_with([("a", "b"), ("c", "d")], x="a", y="b", z="c")
        hall.shelve("p", "x", "y")
        hall.alike("x", "y")
        hall.put("w", "d")
        hall.put("v", "d")
        hall.undo()
        return hall

    def test_stands_alike_in_all(self):
        hall = self.made()
        twin = hall.twin()
        self.assertIs(type(twin), Hall)
        self.assertIsNot(twin, hall)
        self.assertTrue(twin == hall)
        self.assertEqual(stands(twin), stands(hall))
        self.assertEqual((twin.laid(), twin.past()), (2, (7, 1)))

    def test_what_is_kept(self):
        twin = self.made().twin()
        twin.alike("x", "y")
        self.assertEqual(twin.laid(), 2)
        twin.alike("x", "z")
        self.assertEqual(twin.laid(), 3)

    def test_undone_and_done_again(self):
        hall = self.made()
        twin = hall.twin()
        for _ in range(7):
            hall.undo()
            twin.undo()
            self.assertEqual(stands(twin), stands(hall))
        for _ in range(8):
            hall.redo()
            twin.redo()
            self.assertEqual(stands(twin), stands(hall))
        with self.assertRaises(NothingLeft):
            twin.redo()

    def test_neither_changes_the_other(self):
        deeds = [("like", "a", "b"), ("strike", 1), ("put", "x", "c"), ("put", "new", "c"), ("forget", "x"),
                 ("shelve", "q", "x", "y"), ("unshelve", "p"), ("undo",), ("redo",), ("alike", "z", "w"),
                 ("together", [("like", "a", "b"), ("put", "x", "h")])]
        for name, *things in deeds:
            for which in (0, 1):
                halls = [self.made()]
                halls.append(halls[0].twin())
                ahead = stands(halls[1 - which])
                getattr(halls[which], name)(*things)
                self.assertEqual(stands(halls[1 - which]), ahead, name)
                self.assertNotEqual(stands(halls[which]), ahead, name)

    def test_webs_are_kept_apart(self):
        hall = self.made()
        twin = hall.twin()
        twin.alike("z", "w")
        self.assertEqual((hall.laid(), twin.laid()), (2, 4))
        hall.alike("z", "w")
        self.assertEqual(hall.laid(), 4)
        twin.like("e", "f")
        hall.alike("x", "y")
        twin.alike("x", "y")
        self.assertEqual((hall.laid(), twin.laid()), (4, 6))

    def test_a_twin_of_a_twin(self):
        hall = self.made()
        self.assertEqual(stands(hall.twin().twin()), stands(hall))


class SlowHall:
    """A hall that copies all ahead of each deed, and lays each web anew."""

    def __init__(self):
        self.state = {"coming": 1, "lines": {}, "words": {}, "papers": {}}
        self.back, self.forth = [], []
        self.kept, self.count = set(), 0

    def copied(self):
        return {key: dict(worth) if key != "coming" else worth for key, worth in self.state.items()}

    def turn_to(self, state):
        if sorted(state["lines"].items()) != sorted(self.state["lines"].items()):
            self.kept = set()
        self.state = state

    def deed(self, name, *things):
        """What a deed tells, or the word of its refusal."""
        state = self.copied()
        if name in ("undo", "redo"):
            source, target = (self.back, self.forth) if name == "undo" else (self.forth, self.back)
            if not source:
                return "no nothingleft"
            target.append(self.state)
            self.turn_to(source.pop())
            return None
        told = []
        for at, (kind, *rest) in enumerate(things[0] if name == "together" else [(name, *things)]):
            answer = self.change(state, kind, *rest)
            if isinstance(answer, str):
                return f"no stopped {at} {answer[3:]}" if name == "together" else answer
            told.append(answer)
        if told:
            self.back.append(self.state)
            self.forth = []
            self.turn_to(state)
        return told if name == "together" else told[0]

    def change(self, state, name, *things):
        lines, words, papers = state["lines"], state["words"], state["papers"]
        if name == "like":
            if len(lines) == 12:
                return "no full"
            lines[state["coming"]] = things
            state["coming"] += 1
            return state["coming"] - 1
        if name == "strike":
            if things[0] not in lines:
                return "no noline"
            del lines[things[0]]
            gone = sorted(label for label, numbers in papers.items() if things[0] in numbers)
            for label in gone:
                del papers[label]
            return gone
        if name == "put":
            if len(words) == 20 and things[0] not in words:
                return "no full"
            words[things[0]] = things[1]
        if name == "forget":
            if things[0] not in words:
                return "no noname"
            del words[things[0]]
        if name == "unshelve":
            if things[0] not in papers:
                return "no noname"
            del papers[things[0]]
        if name == "shelve":
            label, one, other = things
            if label in papers:
                return "no taken"
            if one not in words or other not in words:
                return "no noname"
            if len(papers) == 12:
                return "no full"
            numbers = sorted(lines)
            verdict = alike(words[one], words[other], [lines[number] for number in numbers])
            if verdict[0] != "alike":
                return "no unproved"
            papers[label] = sorted({numbers[row[2]] for rows in verdict[1:] for row in rows if row[0] == "like"})
        return None

    def ask(self, name, one, other):
        words, lines = self.state["words"], self.state["lines"]
        if one not in words or other not in words:
            return "no noname"
        for word in [words[one], words[other]][:2 if name == "alike" else 1]:
            if word not in self.kept:
                self.kept.add(word)
                self.count += 1
        asked = alike if name == "alike" else beneath
        return asked(words[one], words[other], [lines[number] for number in sorted(lines)])


class SlowTest(unittest.TestCase):

    def some_deed(self, chance):
        def word():
            return "".join(chance.choice("ab") for _ in range(chance.randint(0, 2)))
        name = chance.choice("xyzwv")
        label = chance.choice("pqr")
        number = chance.randint(1, 15)
        return chance.choice([("like", word(), word()), ("like", "a", "b"), ("strike", number), ("put", name, word()),
                              ("put", name, word()), ("forget", name), ("shelve", label, name, chance.choice("xyzwv")),
                              ("shelve", label, "x", "y"), ("unshelve", label)])

    def said(self, hall, name, *things):
        try:
            return getattr(hall, name)(*things)
        except errors.Stopped as refusal:
            return f"no stopped {refusal.at} {refusal.kind}"
        except (errors.SpoorError, errors.Lacking) as refusal:
            return f"no {refusal.word}"

    def compare(self, hall, slow):
        state = slow.state
        self.assertEqual(hall.lines(), [(number, *sides) for number, sides in sorted(state["lines"].items())])
        self.assertEqual(hall.coming(), state["coming"])
        self.assertEqual(hall.words(), sorted(state["words"].items()))
        self.assertEqual([(label, hall.paper(label)[2]) for label in hall.shelf()], sorted(state["papers"].items()))
        self.assertEqual((hall.past(), hall.laid()), ((len(slow.back), len(slow.forth)), slow.count))

    def test_deeds_and_questions_by_chance(self):
        refusals = set()
        for seed in range(25):
            chance = random.Random(seed)
            hall, slow = Hall(), SlowHall()
            for _ in range(120):
                roll = chance.random()
                if roll < 0.2:
                    deed = (chance.choice(["undo", "undo", "redo"]),)
                elif roll < 0.4:
                    deed = ("together", [self.some_deed(chance) for _ in range(chance.randint(0, 3))])
                elif roll < 0.6:
                    question = (chance.choice(["alike", "beneath"]), chance.choice("xyzwv"), chance.choice("xyzwv"))
                    self.assertEqual(self.said(hall, *question), slow.ask(*question), (seed, question))
                    continue
                else:
                    deed = self.some_deed(chance)
                answer = self.said(hall, *deed)
                self.assertEqual(answer, slow.deed(*deed), (seed, deed))
                self.compare(hall, slow)
                refusals.add(answer.split()[1] if isinstance(answer, str) else None)
                if chance.random() < 0.1:
                    hall = hall.twin()
        self.assertLessEqual({None, "noname", "noline", "nothingleft", "stopped", "taken", "unproved"}, refusals)


if __name__ == "__main__":
    unittest.main()
