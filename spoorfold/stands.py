"""Stands: what stands in a hall at one time."""

from spoorfold.errors import BadName, NoName

MOST_LINES = 12
MOST_NAMES = 20
MOST_PAPERS = 12

# No line gets this number.
LAST_NUMBER = 999999999
# How many signs a side of a line may have.
MOST_SIDE = 12

NAME_LETTERS = "abcdefghijklmnopqrstuvwxyz"
MOST_NAME = 8


def is_name(text):
    """Whether a text is a name."""
    return 1 <= len(text) <= MOST_NAME and all([letter in NAME_LETTERS for letter in text])


def need_name(text):
    """Refuse a text that is no name."""
    if not is_name(text):
        raise BadName()


class Stand:
    """Lines, the number of the line that comes, words by names, papers by labels.

    None of the dicts is ever changed: another one takes its place. So stands share them, and a hall keeps those that
    stood ahead.
    """

    def __init__(self):
        self.following = 1
        # By numbers, which rise as lines are added.
        self.pairs = {}
        self.texts = {}
        # Each paper as it is told, with tuples for lists.
        self.papers = {}

    def twin(self):
        """A stand that is alike; from then on neither changes the other."""
        twin = Stand()
        twin.following = self.following
        twin.pairs = self.pairs
        twin.texts = self.texts
        twin.papers = self.papers
        return twin

    def text_of(self, word_name):
        """The word of a name."""
        if word_name not in self.texts:
            raise NoName(word_name)
        return self.texts[word_name]

    def paper_of(self, label):
        """The paper of a label."""
        if label not in self.papers:
            raise NoName(label)
        return self.papers[label]

    def sides_by_number(self):
        """The lines as likenesses, by their numbers."""
        return list(self.pairs.values())

    def add_line(self, number, left, right):
        """Add a line by a number above those that stand."""
        self.pairs = {**self.pairs, number: (left, right)}

    def add_text(self, word_name, word):
        """Keep a word by a name, in place of the one that it has."""
        self.texts = {**self.texts, word_name: word}

    def add_paper(self, label, paper):
        """Keep a paper by a label."""
        self.papers = {**self.papers, label: paper}


def without(things, gone):
    """A dict without some of its keys."""
    return {key: things[key] for key in things if key not in gone}
