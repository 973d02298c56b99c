"""Tracks: the spots that a word passes, and the one at which it ends."""

from spoorfold.words import glued, need_word, rank, turned


class Track:
    """The track of a word."""

    def __init__(self, word):
        need_word(word)
        here = ""
        passed = {here: True}
        for sign in word:
            here = glued(here, sign)
            passed[here] = True
        # The keys of a dict, for sets are not kept in objects.
        self.passed = passed
        self.last = here

    def spots(self):
        """The spots, rising."""
        return sorted(self.passed, key=rank)

    def end(self):
        """The spot at which the word ends."""
        return self.last

    def plain(self):
        """The plain word of this track."""
        # Each beginning of a spot is a spot, so one that begins another one begins one with one sign more.
        begun = {spot[:-1]: True for spot in self.passed}
        tips = [spot for spot in self.spots() if spot != "" and spot not in begun]
        return "".join([spot + turned(spot) for spot in tips]) + self.last

    def joined(self, other):
        """The track of this one's word and the other one's behind it."""
        beyond = moved(self.last, other.passed)
        return track_of({**self.passed, **beyond}, glued(self.last, other.last))

    def back(self):
        """The track of the word undone."""
        home = turned(self.last)
        return track_of(moved(home, self.passed), home)

    def within(self, other):
        """Whether both have the same end, and this one has all spots of the other one."""
        return self.last == other.last and all([spot in self.passed for spot in other.passed])

    def __eq__(self, other):
        return isinstance(other, Track) and self.passed == other.passed and self.last == other.last

    def __len__(self):
        return len(self.passed)

    def __str__(self):
        return str(self.plain())

    def __repr__(self):
        return f"Track({self.plain()!r})"


def moved(start, spots):
    """Spots as they are come to when the way begins at the spot start."""
    return {glued(start, spot): True for spot in spots}


def track_of(spots, last):
    """The track with these spots and this end, whose word may be longer than those that are handed in."""
    track = Track("")
    track.passed = spots
    track.last = last
    return track
