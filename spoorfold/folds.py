"""Folds: places with ways between them, folded as they are laid, with claims for all that is so."""

from spoorfold.trails import Trail
from spoorfold.words import turned


class Fold:
    """Places, of which 0 is the start. What is claimed is told by the number of its step in the trail."""

    def __init__(self):
        self.trail = Trail()
        # Of each place the word by which it is known, and a claim of this word beside itself.
        self.texts = [""]
        self.own = [self.trail.wrote("start")]
        # Of each place, by signs, the place that it leads to, and a claim of the place's word and the sign behind it
        # beside that one's word. To each way there is the way back.
        self.outs = [{}]
        # Of each place that is one with another that one, and a claim of the first one's word beside that one's.
        self.became = {}

    def twin(self):
        """A fold that stands alike; from then on neither changes the other."""
        twin = Fold()
        twin.trail.rows = list(self.trail.rows)
        twin.texts = list(self.texts)
        twin.own = list(self.own)
        twin.outs = [dict(outs) for outs in self.outs]
        twin.became = dict(self.became)
        return twin

    def standing(self):
        """The places that are not told by another one."""
        return [place for place in range(len(self.texts)) if place not in self.became]

    def led(self, word, place):
        """Where a word leads from a place, None: nowhere."""
        here = place
        for sign in word:
            if sign not in self.outs[here]:
                return None
            here = self.outs[here][sign][0]
        return here

    def read(self, word, place):
        """Where a word that leads somewhere leads from a place, and a claim of that."""
        here = place
        known = self.own[place]
        for sign in word:
            here, claim = self.outs[here][sign]
            known = self.trail.wrote("on", known, claim)
        return here, known

    def paper(self, one, other):
        """A paper of two words that lead from the start to one place."""
        # In a twin, for asking leaves no trail.
        twin = self.twin()
        first = twin.read(one, 0)[1]
        second = twin.read(other, 0)[1]
        return twin.trail.paper(twin.trail.wrote("on", first, twin.trail.turn(second)))

    def gap(self, start, word, end):
        """Where in a word the signs begin, and where they end, for which a way between two places is not there."""
        first, last = 0, len(word)
        ahead, behind = start, end
        while first < last and word[first] in self.outs[ahead]:
            ahead = self.outs[ahead][word[first]][0]
            first += 1
        while first < last and word[last - 1].swapcase() in self.outs[behind]:
            behind = self.outs[behind][word[last - 1].swapcase()][0]
            last -= 1
        return first, last

    def lay(self, start, word, end, known):
        """Lay a way by a word from a place to a place; known: the first one's word and this beside the other's word."""
        first, last = self.gap(start, word, end)
        ahead, behind, rest = start, end, known
        for sign in word[:first]:
            ahead, claim = self.outs[ahead][sign]
            rest = self.trail.over(claim, rest)
        for sign in turned(word[last:]):
            behind, claim = self.outs[behind][sign]
            rest = self.trail.over(self.trail.retraced(rest), claim)
        if first == last:
            self.merge([(ahead, behind, rest)])
        else:
            ahead, rest = self.grown(ahead, word[first:last - 1], rest)
            self.merge(self.put(ahead, word[last - 1], behind, rest, self.trail.retraced(rest)))

    def grown(self, place, word, known):
        """The end of a way by a word that is laid from a place on, and what is known then from there on."""
        here, rest = place, known
        for sign in word:
            # A word may turn back on the very way that it has laid.
            if sign in self.outs[here]:
                here, claim = self.outs[here][sign]
                rest = self.trail.over(claim, rest)
            else:
                text = self.texts[here] + sign
                claim = self.trail.wrote("part", rest, len(text))
                there = self.added(text, claim)
                self.put(here, sign, there, claim, self.trail.retraced(claim))
                here = there
        return here, rest

    def added(self, text, claim):
        """A new place, known by a word that is claimed beside itself."""
        self.texts.append(text)
        self.own.append(claim)
        self.outs.append({})
        return len(self.texts) - 1

    def put(self, start, sign, end, forth, back):
        """Put a way by a sign, claimed either way; where one is there already, told is what must be one place then."""
        other = sign.swapcase()
        if sign in self.outs[start]:
            place, claim = self.outs[start][sign]
            return [] if place == end else [(place, end, self.trail.over(claim, forth))]
        if other in self.outs[end]:
            place, claim = self.outs[end][other]
            return [(place, start, self.trail.over(claim, back))]
        self.outs[start][sign] = (end, forth)
        self.outs[end][other] = (start, back)
        return []

    def merge(self, pairs):
        """Make places one, each (one, other, a claim of their words), and what must be one then."""
        # Those known by few signs go first, for so papers are far shorter.
        waiting = {0: list(pairs)}
        while waiting:
            row = waiting.pop(min(list(waiting)))
            for one, other, known in row:
                for pair in self.merged(one, other, known):
                    signs = len(self.texts[pair[0]]) + len(self.texts[pair[1]])
                    waiting.setdefault(signs, []).append(pair)

    def merged(self, one, other, known):
        """Make two places one; told is what must be one place then."""
        first, claim = self.now(one)
        if claim is not None:
            known = self.trail.over(claim, known)
        second, claim = self.now(other)
        if claim is not None:
            known = self.trail.wrote("on", known, claim)
        if first == second:
            return []
        if (len(self.texts[first]), first) < (len(self.texts[second]), second):
            return self.moved(second, first, self.trail.turn(known), known)
        return self.moved(first, second, known, self.trail.turn(known))

    def now(self, place):
        """The place by which a place is told, and a claim of the one's word beside that one's, None where it is it."""
        here, known = place, None
        while here in self.became:
            here, claim = self.became[here]
            known = claim if known is None else self.trail.wrote("on", known, claim)
        if known is not None:
            self.became[place] = (here, known)
        return here, known

    def moved(self, gone, kept, there, back):
        """Let a place be told by another one, which gets its ways; told is what must be one place then."""
        outs = self.outs[gone]
        self.outs[gone] = {}
        self.became[gone] = (kept, there)
        due = []
        for sign in list(outs):
            end, claim = outs[sign]
            other = sign.swapcase()
            forth = self.trail.wrote("on", back, claim)
            if end != gone:
                home = self.outs[end].pop(other)[1]
                due += self.put(kept, sign, end, forth, self.trail.wrote("on", home, there))
            elif sign.islower():
                # A way from the place to itself: its way back is among these ways, too.
                home = self.trail.wrote("on", back, outs[other][1])
                due += self.put(kept, sign, kept, self.trail.wrote("on", forth, there),
                                self.trail.wrote("on", home, there))
        return due
