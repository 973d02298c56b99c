"""The hall: likenesses, words and papers that are kept over many deeds."""

from spoorfold.deeds import done
from spoorfold.errors import Lacking, NothingLeft, SpoorError, Stopped
from spoorfold.stands import Stand
from spoorfold.verdicts import compared, judged, web_of
from spoorfold.webs import ROUNDS, need_rounds
from spoorfold.words import need_pairs


class Hall:
    """Lines, words by names, papers by labels, and all that stood ahead."""

    def __init__(self):
        self.stand = Stand()
        # The stands that undo and redo lead to, the next one last.
        self.behind = []
        self.ahead = []
        # Webs by words and rounds, of the lines that stand.
        self.kept = {}
        self.counted = 0

    def like(self, left, right):
        """Add a line; its number."""
        return self.did(("like", left, right))

    def strike(self, number):
        """Take a line out; the labels, rising, of the papers that go with it."""
        return self.did(("strike", number))

    def put(self, word_name, word):
        """Keep a word by a name."""
        self.did(("put", word_name, word))

    def forget(self, word_name):
        """Keep no word by a name any more."""
        self.did(("forget", word_name))

    def shelve(self, label, one, other, *, rounds=ROUNDS):
        """Put on the shelf the papers that the words of two names are alike by the lines that stand."""
        self.did(("shelve", label, one, other, rounds))

    def unshelve(self, label):
        """Take papers from the shelf."""
        self.did(("unshelve", label))

    def together(self, deeds):
        """Do several deeds as one, all or none; the list of what each told."""
        if not deeds:
            return []
        stand = self.stand.twin()
        told = []
        for at, deed in enumerate(deeds):
            try:
                told.append(done(stand, deed))
            except (SpoorError, Lacking) as refusal:
                raise Stopped(at, refusal.word) from None
        self.settle(stand)
        return told

    def undo(self):
        """Take the last deed back."""
        if not self.behind:
            raise NothingLeft()
        self.ahead.append(self.stand)
        self.stand_by(self.behind.pop())

    def redo(self):
        """Do again the deed that was taken back last."""
        if not self.ahead:
            raise NothingLeft()
        self.behind.append(self.stand)
        self.stand_by(self.ahead.pop())

    def alike(self, one, other, *, rounds=ROUNDS):
        """Whether the words of two names are alike by the lines that stand."""
        first, second = self.text_of(one), self.text_of(other)
        need_rounds(rounds)
        return compared(self.web(first, rounds), self.web(second, rounds), first, second)

    def beneath(self, one, other, *, rounds=ROUNDS):
        """Whether the word of a name is beneath that of another one by the lines that stand."""
        first, second = self.text_of(one), self.text_of(other)
        need_rounds(rounds)
        return judged(self.web(first, rounds), first, second)

    def supposing(self, likenesses, one, other, *, rounds=ROUNDS):
        """Whether the words of two names would be alike if likenesses stood behind the lines."""
        first, second = self.text_of(one), self.text_of(other)
        need_pairs(likenesses)
        need_rounds(rounds)
        every = self.stand.sides_by_number() + list(likenesses)
        return compared(web_of(first, every, rounds), web_of(second, every, rounds), first, second)

    def breaks(self, world):
        """The first (number, place) at which a line does not hold in a world, None where all hold."""
        found = world.breaks(self.stand.sides_by_number())
        if found is None:
            return None
        return (list(self.stand.pairs)[found[0]], found[1])

    def lines(self):
        """The lines that stand, each (number, left, right)."""
        return [(number, left, right) for number, (left, right) in self.stand.pairs.items()]

    def coming(self):
        """The number of the line that comes."""
        return self.stand.following

    def words(self):
        """The pairs (name, word), rising."""
        return sorted(self.stand.texts.items())

    def text_of(self, word_name):
        """The word of a name."""
        return self.stand.text_of(word_name)

    def shelf(self):
        """The labels, rising."""
        return sorted(self.stand.papers)

    def paper(self, label):
        """What is on the shelf by a label: (one, other, numbers, rows, rows)."""
        one, other, numbers, forth, back = self.stand.paper_of(label)
        return (one, other, list(numbers), list(forth), list(back))

    def laid(self):
        """How many webs were laid so far."""
        return self.counted

    def past(self):
        """How many deeds can be taken back, and how many done again."""
        return (len(self.behind), len(self.ahead))

    def twin(self):
        """A hall that stands alike in all; from then on neither changes the other."""
        twin = hall_of(self.stand)
        twin.behind = list(self.behind)
        twin.ahead = list(self.ahead)
        twin.kept = {key: self.kept[key] for key in self.kept}
        twin.counted = self.counted
        return twin

    def __eq__(self, other):
        return isinstance(other, Hall) and self.told() == other.told()

    def __len__(self):
        return len(self.stand.pairs)

    def __repr__(self):
        return f"Hall({len(self.stand.pairs)} lines, {len(self.stand.texts)} words)"

    def told(self):
        """What two halls that are the same have in common."""
        return (self.coming(), self.lines(), self.words())

    def did(self, deed):
        """Do one deed; what it tells."""
        stand = self.stand.twin()
        told = done(stand, deed)
        self.settle(stand)
        return told

    def settle(self, stand):
        """Let a stand be what stands behind a new deed."""
        self.behind.append(self.stand)
        self.ahead = []
        self.stand_by(stand)

    def stand_by(self, stand):
        """Let another stand be the one that stands."""
        if stand.pairs != self.stand.pairs:
            self.kept = {}
        self.stand = stand

    def web(self, word, rounds):
        """The web of a word by the lines that stand, laid where it is not kept."""
        if (word, rounds) not in self.kept:
            self.kept[(word, rounds)] = web_of(word, self.stand.sides_by_number(), rounds)
            self.counted += 1
        return self.kept[(word, rounds)]


def hall_of(stand):
    """The hall in which a stand stands, and none stood ahead."""
    hall = Hall()
    hall.stand = stand
    return hall
