"""Words: texts of small letters, which do, and great ones, which undo."""

from spoorfold.errors import BadWord

LETTERS = "abcdefgh"
MOST_WORD = 60

# In the order in which signs rise.
SIGNS = "aAbBcCdDeEfFgGhH"


def is_word(text):
    """Whether a text is a word."""
    return len(text) <= MOST_WORD and all([sign in SIGNS for sign in text])


def need_word(text):
    """Refuse a text that is no word."""
    if not is_word(text):
        raise BadWord()


def need_words(texts):
    """Refuse texts of which one is no word."""
    for text in texts:
        need_word(text)


def need_pairs(pairs):
    """Refuse pairs in which a text is no word."""
    for pair in pairs:
        need_words(pair)


def undone(word):
    """The word that takes back what a word does."""
    need_word(word)
    return turned(word)


def reduced(word):
    """A word without signs beside one another that undo each other."""
    need_word(word)
    return shortened(word)


def letters_of(word):
    """The small letters of those in a word, rising, each once."""
    need_word(word)
    return letters_in(word)


def below(one, other):
    """Whether the first word rises ahead of the second."""
    need_word(one)
    need_word(other)
    return rank(one) < rank(other)


# Words that are told may be longer than those that are handed in: what follows takes words of any length.


def rank(word):
    """What words rise by."""
    return (len(word), word.translate(str.maketrans("aAbBcCdDeEfFgGhH", "abcdefghijklmnop")))


def letters_in(word):
    """The small letters of those in a word of any length, rising, each once."""
    small = word.lower()
    return "".join([letter for letter in LETTERS if letter in small])


def turned(word):
    """A word of any length undone."""
    return word[::-1].swapcase()


def glued(one, other):
    """Two reduced words behind one another, reduced."""
    most = min(len(one), len(other))
    gone = 0
    # Both are reduced, so signs undo each other only where the words meet.
    while gone < most and one[-1 - gone] == other[gone].swapcase():
        gone += 1
    return one[:len(one) - gone] + other[gone:]


def shortened(word):
    """A word of any length reduced."""
    left = ""
    for sign in word:
        left = glued(left, sign)
    return left
