"""Webs: the places that facts and likenesses make known, seen from a start."""

from spoorfold.errors import BadRounds
from spoorfold.folds import Fold
from spoorfold.kinds import is_upto
from spoorfold.words import need_pairs, need_word
from spoorfold.worlds import world_by

ROUNDS = 6
MOST_ROUNDS = 20
MOST_LAID = 60


class Web:
    """The web of facts, laid on by likenesses round by round."""

    def __init__(self, facts, likenesses, *, rounds=ROUNDS):
        need_pairs(facts)
        need_pairs(likenesses)
        need_rounds(rounds)
        fold = fold_of(facts)
        many = 0
        while many < rounds and not is_closed(fold, likenesses):
            further = rounded(fold, likenesses)
            if len(further.standing()) > MOST_LAID:
                break
            fold = further
            many += 1
        self.fold = fold
        self.many = many
        self.shut = is_closed(fold, likenesses)
        self.shape = shape_of(fold)

    def closed(self):
        """Whether each likeness holds in it."""
        return self.shut

    def rounds(self):
        """How many rounds were laid."""
        return self.many

    def go(self, word):
        """Where a word leads from the start, as a place of the world, None: nowhere."""
        return self.shape.go(word)

    def world(self):
        """The web as a world, seen from its start."""
        return self.shape

    def paper(self, one, other):
        """A paper of (one, other), None where they do not lead to one place."""
        need_word(one)
        need_word(other)
        place = self.shape.go(one)
        if place is None or place != self.shape.go(other):
            return None
        return self.fold.paper(one, other)

    def __len__(self):
        return len(self.shape)


def need_rounds(rounds):
    """Refuse what is no number of rounds."""
    if not is_upto(rounds, MOST_ROUNDS):
        raise BadRounds()


def fold_of(facts):
    """The fold of the ways of facts."""
    fold = Fold()
    for number, (one, other) in enumerate(facts):
        fact = fold.trail.wrote("fact", number)
        end = fold.added(one, fold.trail.wrote("part", fact, len(one)))
        fold.lay(0, one, end, fold.own[end])
        place, claim = fold.now(end)
        known = fold.trail.turn(fact)
        fold.lay(0, other, place, known if claim is None else fold.trail.wrote("on", known, claim))
    return fold


def shape_of(fold):
    """A fold as a world, seen from its start."""
    outs = {}
    for place in fold.standing():
        outs[place] = {sign: end for sign, (end, claim) in fold.outs[place].items()}
    return world_by(outs)


def is_closed(fold, likenesses):
    """Whether each likeness holds in a fold."""
    return ways_due(fold, likenesses) == []


def rounded(fold, likenesses):
    """A fold as it is behind a round."""
    further = fold.twin()
    due = sorted(ways_due(fold, likenesses))
    most = max([len(word) for pair in likenesses for word in pair])
    # Those that lack the fewest signs go first, for so papers are far shorter.
    for lacking in range(most + 1):
        later = []
        for way in due:
            if not is_laid(further, likenesses, way, lacking):
                later.append(way)
        due = later
    return further


def ways_due(fold, likenesses):
    """The ways that a round lays where there are none: (how many signs its place is known by, place, number, forth)."""
    due = []
    for place in fold.standing():
        signs = len(fold.texts[place])
        for number, (left, right) in enumerate(likenesses):
            one, other = fold.led(left, place), fold.led(right, place)
            # Where both lead somewhere the way by the one makes these one place, so does that by the other.
            if one != other:
                due.append((signs, place, number, one is not None))
    return due


def is_laid(fold, likenesses, way, lacking):
    """Lay a way that is due where it lacks at most so many signs; whether it is there then."""
    place, number, forth = way[1:]
    left, right = likenesses[number]
    one, other = (left, right) if forth else (right, left)
    start = fold.now(place)[0]
    end = fold.led(one, start)
    if fold.led(other, start) == end:
        return True
    first, last = fold.gap(start, other, end)
    if last - first > lacking:
        return False
    known = fold.read(one, start)[1]
    fold.lay(start, other, end, fold.trail.wrote("like", known, number, forth))
    return True
