"""Petals: ways of words from a start back to it, folded with rows that tell by which words."""


class Petals:
    """Places, of which 0 is the start, each known by a word.

    A row is a tuple of pairs (number, forth) and stands for the words with these numbers behind one another, undone
    where forth is False. The row of a way from a place to a place makes up the first one's word and the way's sign
    out of the second one's word.
    """

    def __init__(self, words):
        # Of each place, by signs, the place that it leads to, and the way's row. To each way there is the way back.
        self.outs = [{}]
        # Of each place how many signs it is known by.
        self.signs = [0]
        # Of each place that is one with another that one, and the row between them.
        self.became = {}
        # The ways that make two places one, by how many pairs the row between these has.
        self.waiting = {}
        for number, word in enumerate(words):
            self.lay(number, word)

    def lay(self, number, word):
        """Lay the way of a reduced word home."""
        here = 0
        for far in range(1, len(word)):
            self.outs.append({})
            self.signs.append(far)
            there = len(self.outs) - 1
            self.connect(here, word[far - 1], there, ())
            here = there
        if word != "":
            self.connect(here, word[-1], 0, ((number, True),))

    def home(self, word):
        """The row of a reduced word that comes home when all is folded."""
        # Rows can grow beyond all bounds, so short ones go first, and no more is folded than the word needs.
        while self.waiting:
            least = min(list(self.waiting))
            longest = self.longest(word)
            if longest is not None and longest < least:
                break
            ways = self.waiting.pop(least)
            for way in ways:
                self.resume(way, least)
        here, told = 0, ()
        for sign in word:
            here, known = self.outs[here][sign]
            told = linked(told, known)
        return told

    def longest(self, word):
        """How many pairs the longest row on a word's way home has, None where it does not come home so far."""
        here, most = 0, 0
        for sign in word:
            if sign not in self.outs[here]:
                return None
            here, row = self.outs[here][sign]
            most = max(most, len(row))
        return most if here == 0 else None

    def connect(self, start, sign, end, known):
        """Put a way with its row, or let it wait where it makes two places one."""
        clash = self.clash(start, sign, end, known)
        if clash is not None:
            self.waiting.setdefault(len(clash[2]), []).append((start, sign, end, known))
        elif sign not in self.outs[start] or len(known) < len(self.outs[start][sign][1]):
            self.outs[start][sign] = (end, known)
            self.outs[end][sign.swapcase()] = (start, against(known))

    def clash(self, start, sign, end, known):
        """Two places that a way makes one, and the row between them, None where there are no such."""
        other = sign.swapcase()
        if sign in self.outs[start]:
            place, row = self.outs[start][sign]
            return None if place == end else (place, end, linked(against(row), known))
        if other in self.outs[end]:
            place, row = self.outs[end][other]
            return (place, start, linked(against(row), against(known)))
        return None

    def resume(self, way, most):
        """Put a way that has waited; what it makes one is made one where the row has at most so many pairs."""
        start, sign, end, known = self.as_now(way)
        clash = self.clash(start, sign, end, known)
        if clash is not None and len(clash[2]) <= most:
            self.merge(clash[0], clash[1], clash[2])
            start, sign, end, known = self.as_now((start, sign, end, known))
        self.connect(start, sign, end, known)

    def as_now(self, way):
        """A way between the places by which its places are told."""
        start, sign, end, known = way
        first, ahead = self.now(start)
        last, beyond = self.now(end)
        return (first, sign, last, linked(linked(against(ahead), known), beyond))

    def now(self, place):
        """The place by which a place is told, and the row between them."""
        here, known = place, ()
        while here in self.became:
            here, row = self.became[here]
            known = linked(known, row)
        return here, known

    def merge(self, one, other, row):
        """Make two places one."""
        if (self.signs[one], one) < (self.signs[other], other):
            self.move(other, one, against(row))
        else:
            self.move(one, other, row)

    def move(self, gone, kept, row):
        """Let a place be told by another one, which gets its ways."""
        outs = self.outs[gone]
        self.became[gone] = (kept, row)
        for sign in list(outs):
            end, known = outs[sign]
            forth = linked(against(row), known)
            if end != gone:
                del self.outs[end][sign.swapcase()]
                self.connect(kept, sign, end, forth)
            elif sign.islower():
                # A way from the place to itself: its way back is among these ways, too.
                self.connect(kept, sign, kept, linked(forth, row))


def against(row):
    """A row undone."""
    return tuple([(number, not forth) for number, forth in reversed(row)])


def linked(one, other):
    """Two rows behind one another, without pairs beside one another that undo each other."""
    most = min(len(one), len(other))
    gone = 0
    while gone < most and one[-1 - gone] == (other[gone][0], not other[gone][1]):
        gone += 1
    return one[:len(one) - gone] + other[gone:]
