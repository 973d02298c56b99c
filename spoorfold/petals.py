"""Petals: ways of words from a start back to it, folded with rows that tell by which words."""


class Petals:
    """Places, of which 0 is the start, each known by a word.

    A row is a tuple of pairs (number, forth) and stands for the words with these numbers behind one another, undone
    where forth is False. The row of a way from a place to a place makes up the first one's word and the way's sign
    out of the second one's word.
    """

    def __init__(self, words):
        # Of each place, by signs, the place that it leads to, and the way's row. To each way there is the way back.
        self.outs = [{}]
        # Of each place how many signs it is known by.
        self.signs = [0]
        # Of each place that is one with another that one, and the row between them.
        self.became = {}
        # What must be one place, by how many pairs its row has.
        self.waiting = {}
        for number, word in enumerate(words):
            self.lay(number, word)

    def lay(self, number, word):
        """Lay the way of a reduced word home."""
        here = 0
        for far in range(1, len(word)):
            self.outs.append({})
            self.signs.append(far)
            there = len(self.outs) - 1
            self.connect(here, word[far - 1], there, ())
            here = there
        if word != "":
            self.connect(here, word[-1], 0, ((number, True),))

    def home(self, word):
        """The row of a reduced word that comes home when all is folded."""
        # Rows can grow beyond all bounds, so no more is folded than this word needs, short rows first.
        while not self.is_home(word):
            row = self.waiting.pop(min(list(self.waiting)))
            for one, other, known in row:
                self.merge(one, other, known)
        here, told = 0, ()
        for sign in word:
            here, known = self.outs[here][sign]
            told = linked(told, known)
        return told

    def is_home(self, word):
        """Whether a word leads from the start to the start so far."""
        here = 0
        for sign in word:
            if sign not in self.outs[here]:
                return False
            here = self.outs[here][sign][0]
        return here == 0

    def connect(self, start, sign, end, known):
        """Put a way with its row; where there is one already, what must be one place then waits."""
        other = sign.swapcase()
        if sign in self.outs[start]:
            place, row = self.outs[start][sign]
            if place != end:
                self.defer(place, end, linked(against(row), known))
                return
            if len(row) <= len(known):
                return
        elif other in self.outs[end]:
            place, row = self.outs[end][other]
            self.defer(place, start, linked(against(row), against(known)))
            return
        self.outs[start][sign] = (end, known)
        self.outs[end][other] = (start, against(known))

    def defer(self, one, other, known):
        """Let two places that must be one wait for it."""
        self.waiting.setdefault(len(known), []).append((one, other, known))

    def now(self, place):
        """The place by which a place is told, and the row between them."""
        here, known = place, ()
        while here in self.became:
            here, row = self.became[here]
            known = linked(known, row)
        return here, known

    def merge(self, one, other, known):
        """Make two places one, or let them wait again where their row is longer by now."""
        first, ahead = self.now(one)
        second, beyond = self.now(other)
        row = linked(linked(against(ahead), known), beyond)
        if first == second:
            return
        if len(row) > len(known):
            self.defer(first, second, row)
        elif (self.signs[first], first) < (self.signs[second], second):
            self.move(second, first, against(row))
        else:
            self.move(first, second, row)

    def move(self, gone, kept, row):
        """Let a place be told by another one, which gets its ways."""
        outs = self.outs[gone]
        self.outs[gone] = {}
        self.became[gone] = (kept, row)
        for sign in list(outs):
            end, known = outs[sign]
            forth = linked(against(row), known)
            if end != gone:
                del self.outs[end][sign.swapcase()]
                self.connect(kept, sign, end, forth)
            elif sign.islower():
                # A way from the place to itself: its way back is among these ways, too.
                self.connect(kept, sign, kept, linked(forth, row))


def against(row):
    """A row undone."""
    return tuple([(number, not forth) for number, forth in reversed(row)])


def linked(one, other):
    """Two rows behind one another, without pairs beside one another that undo each other."""
    most = min(len(one), len(other))
    gone = 0
    while gone < most and one[-1 - gone] == (other[gone][0], not other[gone][1]):
        gone += 1
    return one[:len(one) - gone] + other[gone:]
