"""The whole program: each refusal where it is due, and each thing of the interface with all handed in by name."""

import inspect
import importlib
import unittest

from spoorfold import errors
from spoorfold.desk import Desk
from spoorfold.hall import Hall
from spoorfold.orders import are_kin, boxes, kin, motions, stills
from spoorfold.pages import page, read_page
from spoorfold.papers import claims, shows
from spoorfold.roses import made_of, makers, parting, rose, shared, sides
from spoorfold.stands import is_name
from spoorfold.steps import between, stepped, to_plain, walked
from spoorfold.tracks import Track
from spoorfold.verdicts import alike, beneath, judge
from spoorfold.webs import Web
from spoorfold.words import below, is_word, letters_of, reduced, undone
from spoorfold.worlds import World

WORLD = World(2, [("a", 0, 1)])
TURNS = World(8, [("a", place, (place + 1) % 8) for place in range(8)] + [("b", 0, 1), ("b", 1, 0)]
              + [("b", place, place) for place in range(2, 8)])


def hall_with_all():
    hall = read_page("coming 3\nlike 1 a b\nlike 2 b bbB\nword w bb\nword x a\nword y b\nword z c\n")
    hall.shelve("p", "x", "y")
    return hall


# Of each refusal: what is due to be refused, the class straight above it, and its fields.
REFUSED = [
    ("BadWord", "SpoorError", lambda: undone("i"), {}),
    ("BadName", "SpoorError", lambda: Hall().put("X", "a"), {}),
    ("BadWorld", "SpoorError", lambda: World(0, []), {}),
    ("BadStep", "SpoorError", lambda: walked("a", [("there", 0, "a"), ("back", 1, "a")]), {"at": 1}),
    ("BadPaper", "SpoorError", lambda: claims([], [], [("start",), ("turn", 1)]), {"at": 1}),
    ("BadRounds", "SpoorError", lambda: Web([], [], rounds=21), {}),
    ("BadPage", "SpoorError", lambda: read_page("coming 1\nlike"), {"row": 1}),
    ("TooLong", "SpoorError", lambda: Hall().like("a" * 13, ""), {}),
    ("Taken", "SpoorError", lambda: hall_with_all().shelve("p", "x", "y"), {"name": "p"}),
    ("Full", "SpoorError", lambda: read_page("coming 999999999\n").like("a", "b"), {}),
    ("Heavy", "SpoorError", lambda: motions(WORLD, most=5), {"many": 5}),
    ("Heavy", "SpoorError", lambda: stills(TURNS), {"many": 1000}),
    ("Unproved", "SpoorError", lambda: hall_with_all().shelve("q", "x", "z"), {"how": "unlike"}),
    ("Unproved", "SpoorError", lambda: hall_with_all().shelve("q", "y", "w"), {"how": "open"}),
    ("Stopped", "SpoorError", lambda: Hall().together([("like", "a", "b"), ("strike", 2)]), {"at": 1, "kind": "noline"}),
    ("Wide", "SpoorError", lambda: kin(World(13, [])), {}),
    ("NoPlace", "Lacking", lambda: WORLD.go("a", 2), {"place": 2}),
    ("NoName", "Lacking", lambda: Hall().text_of("x"), {"name": "x"}),
    ("NoLine", "Lacking", lambda: Hall().strike(7), {"number": 7}),
    ("NothingLeft", "Lacking", lambda: Hall().undo(), {}),
]

# What the interface lists, with what it takes, as it is told there.
LISTED = {
    "words": {"is_word": "text", "undone": "word", "reduced": "word", "letters_of": "word", "below": "one other"},
    "tracks": {"Track": "word", "Track.spots": "", "Track.end": "", "Track.plain": "", "Track.joined": "other",
               "Track.back": "", "Track.within": "other"},
    "steps": {"stepped": "word step", "walked": "word steps", "to_plain": "word", "between": "one other"},
    "worlds": {"World": "many moves", "World.moves": "", "World.letters": "", "World.go": "word place=0",
               "World.motion": "word", "World.seen": "place=0", "World.ways": "place=0", "World.is_whole": "letters",
               "World.widened": "letters", "World.breaks": "likenesses"},
    "papers": {"claims": "facts likenesses rows", "shows": "facts likenesses rows one other"},
    "webs": {"Web": "facts likenesses *rounds=6", "Web.closed": "", "Web.rounds": "", "Web.go": "word",
             "Web.world": "", "Web.paper": "one other"},
    "verdicts": {"judge": "facts likenesses one other *rounds=6", "alike": "one other likenesses *rounds=6",
                 "beneath": "one other likenesses *rounds=6"},
    "orders": {"motions": "world *most=1000", "stills": "world", "boxes": "world", "kin": "world",
               "are_kin": "world one other"},
    "roses": {"rose": "words", "made_of": "words word", "makers": "world", "sides": "words letters",
              "shared": "words others", "parting": "words word"},
    "stands": {"is_name": "text"},
    "hall": {"Hall": "", "Hall.like": "left right", "Hall.strike": "number", "Hall.put": "word_name word",
             "Hall.forget": "word_name", "Hall.shelve": "label one other *rounds=6", "Hall.unshelve": "label",
             "Hall.together": "deeds", "Hall.undo": "", "Hall.redo": "", "Hall.alike": "one other *rounds=6",
             "Hall.beneath": "one other *rounds=6", "Hall.supposing": "likenesses one other *rounds=6",
             "Hall.breaks": "world", "Hall.lines": "", "Hall.coming": "", "Hall.words": "", "Hall.text_of": "word_name",
             "Hall.shelf": "", "Hall.paper": "label", "Hall.laid": "", "Hall.past": "", "Hall.twin": ""},
    "pages": {"page": "hall", "read_page": "text"},
    "desk": {"Desk": "*hall=None", "Desk.say": "row"},
}
NUMBERS = {("words", "LETTERS"): "abcdefgh", ("words", "MOST_WORD"): 60, ("worlds", "MOST_PLACES"): 1000,
           ("webs", "ROUNDS"): 6, ("webs", "MOST_ROUNDS"): 20, ("webs", "MOST_LAID"): 60,
           ("orders", "MOST_MOTIONS"): 1000, ("stands", "MOST_LINES"): 12, ("stands", "MOST_NAMES"): 20,
           ("stands", "MOST_PAPERS"): 12}


def taken(thing, method):
    """What a function, class or method takes, written as in LISTED."""
    rows = []
    for one in list(inspect.signature(thing).parameters.values())[1 if method else 0:]:
        star = "*" if one.kind is one.KEYWORD_ONLY else ""
        rows.append(star + one.name + ("" if one.default is one.empty else f"={one.default}"))
    return " ".join(rows)


class RefusalsTest(unittest.TestCase):

    def test_all_are_here(self):
        listed = {name for name, thing in vars(errors).items() if isinstance(thing, type)}
        self.assertEqual({name for name, *_ in REFUSED} | {"SpoorError", "Lacking"}, listed)

    def test_each_where_it_is_due(self):
        for name, above, asked, fields in REFUSED:
            with self.subTest(name):
                with self.assertRaises((errors.SpoorError, errors.Lacking)) as caught:
                    asked()
                refusal = caught.exception
                self.assertIs(type(refusal), getattr(errors, name))
                self.assertIsInstance(refusal, getattr(errors, above))
                self.assertIsInstance(refusal, ValueError if above == "SpoorError" else LookupError)
                other = errors.Lacking if above == "SpoorError" else errors.SpoorError
                self.assertNotIsInstance(refusal, other)
                self.assertEqual(refusal.word, name.lower())
                self.assertEqual({field: getattr(refusal, field) for field in fields}, fields)

    def test_bad_words_wherever_words_are_handed_in(self):
        web, hall = Web([], []), hall_with_all()
        for text in ["i", "-", " ", "a b", "a" * 61, "\n"]:
            for asked in [
                lambda: undone(text), lambda: reduced(text), lambda: letters_of(text), lambda: below(text, "a"),
                lambda: below("a", text), lambda: Track(text), lambda: stepped(text, ()), lambda: walked(text, []),
                lambda: to_plain(text), lambda: between(text, "a"), lambda: between("a", text),
                lambda: WORLD.go(text, 7), lambda: WORLD.motion(text), lambda: WORLD.breaks([("a", text)]),
                lambda: claims([(text, "a")], [], [("no",)]), lambda: claims([], [("a", text)], [("no",)]),
                lambda: shows([], [], [], text, "a"), lambda: shows([], [], [], "a", text),
                lambda: web.go(text), lambda: web.paper(text, "a"), lambda: web.paper("b", text),
                lambda: judge([], [], "a", text, rounds=-1), lambda: alike("a", text, [], rounds=-1),
                lambda: beneath("a", text, [], rounds=-1), lambda: are_kin(TURNS, "a", text),
                lambda: rose(["a", text]), lambda: made_of([text], "a"), lambda: made_of([], text),
                lambda: sides([text], "a"), lambda: shared([], [text]), lambda: parting(["a"], text),
                lambda: hall.like("a", text), lambda: hall.put("x", text),
                lambda: hall.supposing([("a", text)], "x", "y", rounds=-1),
            ]:
                with self.assertRaises(errors.BadWord):
                    asked()
            self.assertIs(is_word(text), False)

    def test_bad_rounds_wherever_rounds_are_handed_in(self):
        hall = hall_with_all()
        for rounds in [-1, 21, True, False, None, "6", 6.0, [6]]:
            for asked in [
                lambda: Web([], [], rounds=rounds), lambda: judge([], [], "", "", rounds=rounds),
                lambda: alike("", "", [], rounds=rounds), lambda: beneath("", "", [], rounds=rounds),
                lambda: hall.alike("x", "y", rounds=rounds), lambda: hall.beneath("x", "y", rounds=rounds),
                lambda: hall.supposing([], "x", "y", rounds=rounds), lambda: hall.shelve("q", "x", "y", rounds=rounds),
            ]:
                with self.assertRaises(errors.BadRounds, msg=rounds):
                    asked()
        for rounds in [0, 20]:
            hall.alike("x", "y", rounds=rounds)
            hall.supposing([], "x", "y", rounds=rounds)


class InterfaceTest(unittest.TestCase):

    def test_what_each_takes(self):
        for name, listed in LISTED.items():
            module = importlib.import_module(f"spoorfold.{name}")
            for path, expected in listed.items():
                owner, _, method = path.partition(".")
                thing = getattr(module, owner)
                self.assertEqual(thing.__module__, f"spoorfold.{name}")
                if method:
                    self.assertIn(method, vars(thing))
                    thing = getattr(thing, method)
                self.assertEqual(taken(thing, method != ""), expected, path)

    def test_numbers(self):
        for (name, number), worth in NUMBERS.items():
            self.assertEqual(getattr(importlib.import_module(f"spoorfold.{name}"), number), worth)

    def test_functions_with_all_by_name(self):
        facts, likes = [("ab", "c")], [("a", "b")]
        self.assertIs(is_word(text="a"), True)
        self.assertEqual((undone(word="ab"), reduced(word="aAb"), letters_of(word="bA")), ("BA", "b", "ab"))
        self.assertIs(below(other="b", one="a"), True)
        self.assertEqual(stepped(step=("there", 0, "a"), word="a"), "aAa")
        self.assertEqual(walked(steps=[("there", 0, "a")], word="a"), "aAa")
        self.assertEqual((to_plain(word=""), between(other="", one="")), ([], []))
        self.assertEqual(claims(rows=[("fact", 0)], likenesses=[], facts=facts), facts)
        self.assertIs(shows(other="c", one="ab", rows=[("fact", 0)], likenesses=[], facts=facts), True)
        self.assertEqual(judge(rounds=1, other="c", one="ab", likenesses=likes, facts=facts)[0], "follows")
        self.assertEqual(alike(rounds=1, likenesses=likes, other="b", one="a")[0], "alike")
        self.assertEqual(beneath(rounds=1, likenesses=likes, other="b", one="a")[0], "follows")
        self.assertEqual(motions(most=6, world=WORLD), motions(WORLD))
        self.assertEqual((len(stills(world=WORLD)), len(boxes(world=WORLD))), (4, 3))
        self.assertEqual(kin(world=WORLD), ((), [()]))
        self.assertIs(are_kin(other="A", one="a", world=WORLD), True)
        self.assertEqual(rose(words=["a"]), World(many=1, moves=[("a", 0, 0)]))
        self.assertEqual(made_of(word="aa", words=["a"]), [(0, True), (0, True)])
        self.assertEqual((makers(world=WORLD), sides(letters="a", words=["a"])), ([], 1))
        self.assertEqual(shared(others=["a"], words=["aa"]), rose(["aa"]))
        self.assertEqual(parting(word="a", words=["aa"])[0], "away")
        self.assertIs(is_name(text="ab"), True)
        self.assertEqual(page(hall=read_page(text="coming 7\n")), "coming 7\n")

    def test_methods_with_all_by_name(self):
        track = Track(word="a")
        self.assertEqual(track.joined(other=Track("A")), Track("aA"))
        self.assertIs(track.within(other=track), True)
        self.assertEqual((WORLD.go(place=1, word="A"), WORLD.motion(word="a")), (0, (1, None)))
        self.assertEqual((WORLD.seen(place=0), WORLD.ways(place=1)), (WORLD, ["", "A"]))
        self.assertEqual((WORLD.is_whole(letters="a"), len(WORLD.widened(letters="a"))), (False, 2))
        self.assertEqual(WORLD.breaks(likenesses=[("a", "")]), (0, 0))
        web = Web(rounds=2, likenesses=[], facts=[("a", "b")])
        self.assertEqual((web.go(word="a"), len(web.paper(other="b", one="a")) > 0), (1, True))
        hall = Hall()
        self.assertEqual(hall.like(right="b", left="a"), 1)
        hall.put(word="a", word_name="x")
        hall.put(word="b", word_name="y")
        hall.shelve(rounds=2, other="y", one="x", label="p")
        self.assertEqual(hall.alike(rounds=2, other="y", one="x")[0], "alike")
        self.assertEqual(hall.beneath(rounds=2, other="y", one="x")[0], "follows")
        self.assertEqual(hall.supposing(rounds=2, other="y", one="x", likenesses=[])[0], "alike")
        self.assertEqual((hall.breaks(world=WORLD), hall.text_of(word_name="x")), ((1, 0), "a"))
        self.assertEqual(hall.paper(label="p")[:3], ("a", "b", [1]))
        hall.unshelve(label="p")
        hall.forget(word_name="x")
        self.assertEqual(hall.strike(number=1), [])
        self.assertEqual(hall.together(deeds=[("like", "a", "b")]), [2])
        self.assertEqual(Desk(hall=hall).say(row="lines"), "2")

    def test_the_package_has_nothing_of_the_outside(self):
        for name in LISTED:
            for title, thing in vars(importlib.import_module(f"spoorfold.{name}")).items():
                if not title.startswith("__"):
                    self.assertTrue(getattr(thing, "__module__", "spoorfold").startswith("spoorfold"), (name, title))


class WholeTest(unittest.TestCase):

    def test_what_is_shown_and_what_parts(self):
        """The parts of the program agree with one another."""
        hall = read_page("coming 4\nlike 1 aa -\nlike 2 bbb -\nlike 3 abab -\nword x abA\nword y BaB\nword z ba\n")
        verdict = hall.alike("x", "y")
        self.assertEqual(verdict, alike("abA", "BaB", [("aa", ""), ("bbb", ""), ("abab", "")]))
        kind, number, world = hall.alike("x", "z")
        self.assertEqual((kind, number, len(world)), ("unlike", 0, 6))
        self.assertIsNone(hall.breaks(world))
        self.assertEqual(len(motions(world)), 6)
        self.assertEqual(sides(makers(world), "ab"), 6)
        self.assertEqual(rose(makers(world)), world)
        self.assertEqual(parting(makers(world), "abab")[0], "home")
        self.assertEqual(parting(makers(world), "ab")[0], "away")
        self.assertEqual([turnings for _, turnings in boxes(world)], [6])

    def test_words_of_one_track_are_alike_in_each_hall(self):
        hall = hall_with_all()
        hall.put("one", "aAbB")
        hall.put("other", walked("aAbB", between("aAbB", "bBaA")))
        self.assertEqual(hall.alike("one", "other", rounds=0)[0], "alike")
        self.assertEqual(Desk(hall=hall).say("plain one"), Track("aAbB").plain())


if __name__ == "__main__":
    unittest.main()
