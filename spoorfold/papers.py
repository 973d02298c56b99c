"""Papers: rows of small steps, each of which makes a claim out of those ahead."""

from spoorfold.errors import BadPaper
from spoorfold.kinds import is_upto
from spoorfold.words import need_pairs, need_word


def claims(facts, likenesses, rows):
    """The claims that the steps of a paper make."""
    need_pairs(facts)
    need_pairs(likenesses)
    return claims_made(facts, likenesses, rows)


def shows(facts, likenesses, rows, one, other):
    """Whether rows are a paper that shows the claim (one, other)."""
    need_pairs(facts)
    need_pairs(likenesses)
    need_word(one)
    need_word(other)
    try:
        made = claims_made(facts, likenesses, rows)
    except BadPaper:
        return False
    return made[-1:] == [(one, other)]


class Book:
    """What a paper is made from: facts, likenesses, and the claims made so far."""

    def __init__(self, facts, likenesses):
        self.facts = facts
        self.likenesses = likenesses
        self.made = []

    def need(self, fits):
        """Refuse the row that is read where it does not fit."""
        if not fits:
            raise BadPaper(len(self.made))

    def picked(self, things, number):
        """The thing with a number."""
        self.need(is_upto(number, len(things) - 1))
        return things[number]

    def claim(self, number):
        """The claim ahead with a number."""
        return self.picked(self.made, number)


def by_start(book):
    """The start beside itself."""
    return ("", "")


def by_fact(book, number):
    """A fact."""
    one, other = book.picked(book.facts, number)
    return (one, other)


def by_turn(book, number):
    """A claim the other way about."""
    one, other = book.claim(number)
    return (other, one)


def by_on(book, number, further):
    """A claim for the beginning of another one."""
    one, other = book.claim(number)
    longer, end = book.claim(further)
    book.need(longer.startswith(other))
    return (one + longer[len(other):], end)


def by_home(book, number):
    """The last sign of a claim there and back."""
    word, end = book.claim(number)
    book.need(word != "")
    return (word + word[-1].swapcase(), word[:-1])


def by_like(book, number, which, forth):
    """A claim with one side of a likeness at the end of its first word for the other."""
    word, end = book.claim(number)
    left, right = book.picked(book.likenesses, which)
    book.need(forth is True or forth is False)
    old, new = (left, right) if forth else (right, left)
    book.need(word.endswith(old))
    return (word[:len(word) - len(old)] + new, end)


def by_part(book, number, many):
    """The first signs of a claim beside themselves."""
    word, end = book.claim(number)
    book.need(is_upto(many, len(word)))
    return (word[:many], word[:many])


# What makes the claim of a row, and how many things the row has, by its word.
MAKERS = {"start": by_start, "fact": by_fact, "turn": by_turn, "on": by_on, "home": by_home, "like": by_like,
          "part": by_part}
THINGS = {"start": 1, "fact": 2, "turn": 2, "on": 3, "home": 2, "like": 4, "part": 3}


def claims_made(facts, likenesses, rows):
    """The claims that rows make of facts and likenesses that are known to be of words."""
    book = Book(facts, likenesses)
    for row in rows:
        book.need(row != () and THINGS.get(row[0]) == len(row))
        maker = MAKERS[row[0]]
        things = row[1:]
        book.made.append(maker(book, *things))
    return book.made
