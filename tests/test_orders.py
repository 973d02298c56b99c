"""spoorfold.orders: motions, stills, boxes, the core and kin of small worlds."""

import itertools
import random
import unittest

import naive
from spoorfold.errors import BadWord, Heavy, SpoorError, Wide
from spoorfold.orders import MOST_MOTIONS, are_kin, boxes, kin, motions, stills
from spoorfold.worlds import World

NO_WORDS = ["i", "I", "a" * 61, "a b", "-", "a\n"]

POINT = World(1, [])
LOOP = World(1, [("a", 0, 0)])
STEP = World(2, [("a", 0, 1)])
TURN = World(3, [("a", 0, 1), ("a", 1, 2), ("a", 2, 0)])
# All one to one motions of three places: 6 of all of them, 18 of two, 9 of one, and the empty one.
ALL = World(3, [("a", 0, 1), ("a", 1, 2), ("a", 2, 0), ("b", 0, 1), ("b", 1, 0), ("b", 2, 2), ("c", 0, 0),
                ("c", 1, 1)])
# A turning beside a way that ends: the turning is what is left of all.
BESIDE = World(5, [("a", 0, 1), ("a", 1, 0), ("a", 2, 3), ("a", 3, 4)])
LINE = World(12, [("a", place, place + 1) for place in range(11)])
RING = World(12, [("a", place, (place + 1) % 12) for place in range(12)])
WIDE = World(13, [])
# All ways to set eight places in another order, 40320.
MANY = World(8, [("a", place, (place + 1) % 8) for place in range(8)] + [("b", 0, 1), ("b", 1, 0)]
             + [("b", place, place) for place in range(2, 8)])


def some_worlds(many, seed, most=4, letters="abc"):
    chance = random.Random(seed)
    for _ in range(many):
        places = chance.randint(1, most)
        moves = []
        for letter in letters[:chance.randint(0, len(letters))]:
            starts = chance.sample(range(places), chance.randint(0, places))
            ends = chance.sample(range(places), len(starts))
            moves += [(letter, start, end) for start, end in zip(starts, ends)]
        yield World(places, moves)


class MotionsTest(unittest.TestCase):

    def test_the_number_told(self):
        self.assertEqual(MOST_MOTIONS, 1000)

    def test_a_world_without_moves(self):
        self.assertEqual(motions(POINT), [("", (0,))])
        self.assertEqual(motions(World(3, [])), [("", (0, 1, 2))])
        self.assertEqual(motions(World(12, [])), [("", tuple(range(12)))])

    def test_one_place(self):
        self.assertEqual(motions(LOOP), [("", (0,))])
        self.assertEqual(motions(World(1, [("a", 0, 0), ("h", 0, 0)])), [("", (0,))])

    def test_ordinary(self):
        self.assertEqual(motions(STEP), [("", (0, 1)), ("a", (1, None)), ("A", (None, 0)), ("aa", (None, None)),
                                         ("aA", (0, None)), ("Aa", (None, 1))])
        self.assertEqual(motions(TURN), [("", (0, 1, 2)), ("a", (1, 2, 0)), ("A", (2, 0, 1))])
        self.assertEqual(motions(World(2, [("b", 0, 1), ("b", 1, 0), ("h", 0, 1), ("h", 1, 0)])),
                         [("", (0, 1)), ("b", (1, 0))])
        self.assertEqual(motions(World(2, [("c", 0, 0)])), [("", (0, 1)), ("c", (0, None))])
        self.assertEqual(len(motions(ALL)), 34)

    def test_12_places(self):
        self.assertEqual([word for word, _ in motions(RING)][:4], ["", "a", "A", "aa"])
        self.assertEqual(len(motions(RING)), 12)
        self.assertEqual(motions(RING)[-1], ("aaaaaa", tuple((place + 6) % 12 for place in range(12))))
        # All motions but the first go k on, defined on a row of places: k * k summed up, and the empty one.
        self.assertEqual(len(motions(LINE)), sum(many * many for many in range(1, 13)) + 1)

    def test_kinds(self):
        told = motions(STEP)
        self.assertIs(type(told), list)
        self.assertEqual({type(pair) for pair in told}, {tuple})
        self.assertEqual({type(motion) for _, motion in told}, {tuple})
        again = list(told)
        told.clear()
        self.assertEqual(motions(STEP), again)

    def test_words_make_their_motions_and_rise(self):
        for world in some_worlds(80, 1):
            told = motions(world)
            self.assertEqual([world.motion(word) for word, _ in told], [motion for _, motion in told])
            self.assertEqual([word for word, _ in told], sorted([word for word, _ in told], key=naive.rank))
            self.assertEqual(len({motion for _, motion in told}), len(told))

    def test_against_the_slow_way(self):
        for world in some_worlds(80, 2, most=3):
            self.assertEqual(motions(world), naive.motions(len(world), world.moves()), world.moves())

    def test_least_words_of_long_ones(self):
        # A turning of 3, 4 and 5 places at once: of 60 motions, 30 signs either way.
        rings = [(0, 3), (3, 4), (7, 5)]
        moves = [("a", low + at, low + (at + 1) % many) for low, many in rings for at in range(many)]
        told = motions(World(12, moves))
        self.assertEqual(len(told), 60)
        self.assertEqual(told[-1][0], "a" * 30)
        self.assertEqual(told[1][0], "a")
        self.assertEqual(told[2][0], "A")

    def test_most(self):
        for world, many in [(POINT, 1), (LOOP, 1), (STEP, 6), (TURN, 3), (ALL, 34), (LINE, 651), (RING, 12)]:
            told = motions(world)
            self.assertEqual(len(told), many)
            self.assertEqual(motions(world, most=many), told)
            self.assertEqual(motions(world, most=many + 1), told)
            for most in sorted({1, many // 2, many - 1}):
                if 0 < most < many:
                    with self.assertRaises(Heavy) as caught:
                        motions(world, most=most)
                    self.assertEqual((caught.exception.many, caught.exception.word), (most, "heavy"))
                    self.assertIsInstance(caught.exception, SpoorError)

    def test_most_left_out(self):
        with self.assertRaises(Heavy) as caught:
            motions(MANY)
        self.assertEqual(caught.exception.many, 1000)
        with self.assertRaises(Heavy) as caught:
            motions(MANY, most=20000)
        self.assertEqual(caught.exception.many, 20000)
        self.assertEqual(len(motions(MANY, most=40320)), 40320)

    def test_most_more_than_is_left_out(self):
        four = World(4, [("a", 0, 1), ("a", 1, 2), ("a", 2, 3), ("a", 3, 0), ("b", 0, 1), ("b", 1, 0), ("b", 2, 2),
                         ("b", 3, 3), ("c", 0, 0), ("c", 1, 1), ("c", 2, 2)])
        self.assertEqual(len(motions(four)), 209)
        five = World(5, [("a", place, (place + 1) % 5) for place in range(5)]
                     + [("b", 0, 1), ("b", 1, 0), ("b", 2, 2), ("b", 3, 3), ("b", 4, 4)]
                     + [("c", place, place) for place in range(4)])
        with self.assertRaises(Heavy) as caught:
            motions(five)
        self.assertEqual(caught.exception.many, 1000)
        self.assertEqual(len(motions(five, most=1546)), 1546)
        with self.assertRaises(Heavy):
            motions(five, most=1545)

    def test_wide(self):
        for world in [WIDE, World(1000, []), World(13, [("a", place, (place + 1) % 13) for place in range(13)])]:
            for most in [1, 12, 1000]:
                with self.assertRaises(Wide) as caught:
                    motions(world, most=most)
                self.assertEqual(caught.exception.word, "wide")

    def test_by_name(self):
        self.assertEqual(motions(world=STEP, most=6), motions(STEP))
        with self.assertRaises(TypeError):
            motions(STEP, 6)


class StillsTest(unittest.TestCase):

    def test_ordinary(self):
        self.assertEqual(stills(POINT), [(0,)])
        self.assertEqual(stills(LOOP), [(0,)])
        self.assertEqual(stills(STEP), [(), (0,), (0, 1), (1,)])
        self.assertEqual(stills(TURN), [(0, 1, 2)])
        self.assertEqual(stills(BESIDE), [(0, 1), (0, 1, 2), (0, 1, 2, 3), (0, 1, 2, 3, 4), (0, 1, 3),
                                          (0, 1, 3, 4), (0, 1, 4)])
        self.assertEqual(stills(World(3, [("a", 2, 2)])), [(0, 1, 2), (2,)])
        self.assertEqual(len(stills(ALL)), 8)

    def test_are_those_whose_motion_is_one(self):
        for world in some_worlds(100, 3):
            made = {motion for _, motion in motions(world)}
            places = range(len(world))
            every = [row for many in range(len(world) + 1) for row in itertools.combinations(places, many)]
            expected = [row for row in every if tuple(at if at in row else None for at in places) in made]
            self.assertEqual(stills(world), sorted(expected))

    def test_new_lists(self):
        told = stills(STEP)
        told.clear()
        self.assertEqual(len(stills(STEP)), 4)


class BoxesTest(unittest.TestCase):

    def test_ordinary(self):
        self.assertEqual(boxes(POINT), [(((0,),), 1)])
        self.assertEqual(boxes(STEP), [(((),), 1), (((0,), (1,)), 1), (((0, 1),), 1)])
        self.assertEqual(boxes(TURN), [(((0, 1, 2),), 3)])
        self.assertEqual(boxes(ALL), [(((),), 1), (((0,), (1,), (2,)), 1), (((0, 1), (0, 2), (1, 2)), 2),
                                      (((0, 1, 2),), 6)])
        self.assertEqual(boxes(BESIDE), [(((0, 1),), 2), (((0, 1, 2), (0, 1, 3), (0, 1, 4)), 1),
                                         (((0, 1, 2, 3), (0, 1, 3, 4)), 1), (((0, 1, 2, 3, 4),), 1)])

    def test_each_motion_is_of_just_one_box(self):
        for world in [POINT, STEP, TURN, ALL, BESIDE, LINE, RING, *some_worlds(100, 4, most=5)]:
            try:
                many = len(motions(world))
            except Heavy:
                continue
            self.assertEqual(sum(len(box) ** 2 * turnings for box, turnings in boxes(world)), many)
            self.assertEqual(sorted([still for box, _ in boxes(world) for still in box]), stills(world))

    def test_against_the_slow_way(self):
        for world in some_worlds(120, 5):
            self.assertEqual(boxes(world), naive.boxes([motion for _, motion in motions(world)]), world.moves())

    def test_kinds(self):
        for box, turnings in boxes(BESIDE):
            self.assertIs(type(box), tuple)
            self.assertEqual({type(still) for still in box}, {tuple})
            self.assertIs(type(turnings), int)
            self.assertEqual(list(box), sorted(box))
        told = boxes(BESIDE)
        self.assertIs(type(told), list)
        self.assertEqual({type(pair) for pair in told}, {tuple})
        told.clear()
        self.assertEqual(len(boxes(BESIDE)), 4)

    def test_with_the_empty_motion_and_without(self):
        self.assertEqual(boxes(LINE)[0], (((),), 1))
        self.assertEqual([len(box[0][0]) for box in boxes(BESIDE)][0], 2)


class KinTest(unittest.TestCase):

    def test_ordinary(self):
        self.assertEqual(kin(POINT), ((0,), [(0,)]))
        self.assertEqual(kin(STEP), ((), [()]))
        self.assertEqual(kin(TURN), ((0, 1, 2), [(0, 1, 2), (1, 2, 0), (2, 0, 1)]))
        self.assertEqual(kin(ALL), ((), [()]))
        self.assertEqual(kin(BESIDE), ((0, 1), [(0, 1), (1, 0)]))
        self.assertEqual(kin(World(3, [("b", 1, 1)])), ((1,), [(1,)]))
        self.assertEqual(kin(World(4, [("a", 0, 1), ("b", 1, 3), ("b", 3, 1)])), ((), [()]))
        self.assertEqual(kin(World(4, [("a", 1, 1), ("a", 3, 3), ("b", 1, 3), ("b", 3, 1), ("b", 0, 2)])),
                         ((1, 3), [(1, 3), (3, 1)]))

    def test_the_core_is_what_all_stills_have(self):
        for world in some_worlds(120, 6, most=5):
            try:
                every = stills(world)
            except Heavy:
                continue
            core, turnings = kin(world)
            self.assertEqual(core, tuple(place for place in range(len(world)) if all(place in row for row in every)))
            led = {tuple(motion[place] for place in core) for _, motion in motions(world)}
            self.assertEqual(turnings, sorted(led))
            self.assertTrue(all(sorted(row) == list(core) for row in turnings))

    def test_are_kin(self):
        self.assertIs(are_kin(BESIDE, "a", "A"), True)
        self.assertIs(are_kin(BESIDE, "a", ""), False)
        self.assertIs(are_kin(BESIDE, "aa", ""), True)
        self.assertIs(are_kin(BESIDE, "a" * 60, "aaaa"), True)
        self.assertIs(are_kin(STEP, "a", "aaaaa"), True)
        self.assertIs(are_kin(TURN, "a", "A"), False)
        self.assertIs(are_kin(TURN, "aa", "A"), True)

    def test_letters_that_the_world_lacks(self):
        self.assertIs(are_kin(TURN, "b", "a"), False)
        self.assertIs(are_kin(TURN, "a", "aB"), False)
        self.assertIs(are_kin(TURN, "b", "ahA"), True)
        self.assertIs(are_kin(STEP, "b", "a"), True)
        self.assertIs(are_kin(POINT, "a", ""), False)

    def test_kin_just_where_some_motion_is_a_part_of_both(self):
        words = list(naive.words_upto(2))
        both = set()
        for world in some_worlds(40, 7, most=3, letters="ab"):
            made = [motion for _, motion in motions(world)]
            inside = [word for word in words if set(word.lower()) <= set(world.letters())]
            for one, other in itertools.product(inside, repeat=2):
                first, second = world.motion(one), world.motion(other)
                part = any(all(end is None or end == first[at] == second[at] for at, end in enumerate(motion))
                           for motion in made)
                self.assertIs(are_kin(world, one, other), part, (world.moves(), one, other))
                both.add(part)
        self.assertEqual(both, {True, False})

    def test_refusals_in_their_order(self):
        for text in NO_WORDS:
            for one, other in [(text, "a"), ("a", text), (text, text)]:
                for world in [WIDE, World(14, MANY.moves())]:
                    with self.assertRaises(Wide):
                        are_kin(world, one, other)
                for world in [POINT, TURN, MANY]:
                    with self.assertRaises(BadWord):
                        are_kin(world, one, other)
        with self.assertRaises(Heavy) as caught:
            are_kin(MANY, "a", "b")
        self.assertEqual(caught.exception.many, 1000)
        with self.assertRaises(Wide):
            are_kin(WIDE, "a", "b")


class AllTest(unittest.TestCase):

    def test_wide_and_heavy(self):
        wide = World(13, MANY.moves())
        for asked in [motions, stills, boxes, kin, lambda world: are_kin(world, "", "")]:
            for world in [WIDE, wide]:
                with self.assertRaises(Wide):
                    asked(world)
            with self.assertRaises(Heavy) as caught:
                asked(MANY)
            self.assertEqual(caught.exception.many, 1000)
            asked(LINE)

    def test_by_name(self):
        self.assertEqual(stills(world=STEP), stills(STEP))
        self.assertEqual(boxes(world=STEP), boxes(STEP))
        self.assertEqual(kin(world=STEP), kin(STEP))
        self.assertIs(are_kin(other="a", one="a", world=STEP), True)

    def test_the_world_is_not_changed(self):
        moves = BESIDE.moves()
        for asked in [motions, stills, boxes, kin, lambda world: are_kin(world, "a", "A")]:
            asked(BESIDE)
        self.assertEqual((len(BESIDE), BESIDE.moves()), (5, moves))


if __name__ == "__main__":
    unittest.main()
