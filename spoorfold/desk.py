"""The desk: a hall that is asked and told by rows of words."""

from spoorfold.errors import Lacking, SpoorError
from spoorfold.hall import Hall
from spoorfold.tracks import Track
from spoorfold.words import reduced
from spoorfold.written import is_number, meant, shown

UNKNOWN = "what"


def listed(things):
    """A list as it is answered."""
    return " ".join(things) if things else "none"


def like(hall, left, right):
    """Answer `like LEFT RIGHT`."""
    return str(hall.like(meant(left), meant(right)))


def strike(hall, number):
    """Answer `strike NUMBER`."""
    if not is_number(number):
        return UNKNOWN
    return listed(hall.strike(int(number)))


def put(hall, word_name, word):
    """Answer `word NAME WORD`."""
    hall.put(word_name, meant(word))
    return "done"


def forget(hall, word_name):
    """Answer `forget NAME`."""
    hall.forget(word_name)
    return "done"


def shelve(hall, label, one, other):
    """Answer `shelve LABEL ONE OTHER`."""
    hall.shelve(label, one, other)
    return "done"


def unshelve(hall, label):
    """Answer `unshelve LABEL`."""
    hall.unshelve(label)
    return "done"


def undo(hall):
    """Answer `undo`."""
    hall.undo()
    return "done"


def redo(hall):
    """Answer `redo`."""
    hall.redo()
    return "done"


def ask(hall, one, other):
    """Answer `ask ONE OTHER`."""
    return hall.alike(one, other)[0]


def under(hall, one, other):
    """Answer `under ONE OTHER`."""
    return hall.beneath(one, other)[0]


def plain(hall, word_name):
    """Answer `plain NAME`."""
    return shown(Track(hall.text_of(word_name)).plain())


def short(hall, word_name):
    """Answer `short NAME`."""
    return shown(reduced(hall.text_of(word_name)))


def lines(hall):
    """Answer `lines`."""
    return listed([str(number) for number, left, right in hall.lines()])


def names(hall):
    """Answer `words`."""
    return listed([name for name, word in hall.words()])


def shelf(hall):
    """Answer `shelf`."""
    return listed(hall.shelf())


def laid(hall):
    """Answer `laid`."""
    return str(hall.laid())


# What answers a row, by its first word and how many words stand behind it.
ANSWERS = {
    ("like", 2): like, ("strike", 1): strike, ("word", 2): put, ("forget", 1): forget, ("shelve", 3): shelve,
    ("unshelve", 1): unshelve, ("undo", 0): undo, ("redo", 0): redo, ("ask", 2): ask, ("under", 2): under,
    ("plain", 1): plain, ("short", 1): short, ("lines", 0): lines, ("words", 0): names, ("shelf", 0): shelf,
    ("laid", 0): laid,
}


class Desk:
    """Answers rows of words, by a hall that is handed in or one of its own."""

    def __init__(self, *, hall=None):
        # A hall without lines counts as nothing where it is tested alone.
        self.hall = Hall() if hall is None else hall

    def say(self, row):
        """The answer to a row."""
        first, *things = row.split(" ")
        if "" in things or (first, len(things)) not in ANSWERS:
            return UNKNOWN
        answer = ANSWERS[(first, len(things))]
        try:
            return answer(self.hall, *things)
        except (SpoorError, Lacking) as refusal:
            return f"no {refusal.word}"
