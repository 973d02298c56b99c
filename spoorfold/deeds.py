"""Deeds: what changes a stand. A stand that a deed is refused for is not changed."""

from spoorfold.errors import Full, NoLine, Taken, TooLong, Unproved
from spoorfold.kinds import is_upto
from spoorfold.stands import LAST_NUMBER, MOST_LINES, MOST_NAMES, MOST_PAPERS, MOST_SIDE, need_name, without
from spoorfold.verdicts import alike
from spoorfold.webs import ROUNDS, need_rounds
from spoorfold.words import need_word, need_words


def like(stand, left, right):
    """Add a line; its number."""
    need_words([left, right])
    if len(left) > MOST_SIDE or len(right) > MOST_SIDE:
        raise TooLong()
    if len(stand.pairs) >= MOST_LINES or stand.following >= LAST_NUMBER:
        raise Full()
    number = stand.following
    stand.add_line(number, left, right)
    stand.following = number + 1
    return number


def strike(stand, number):
    """Take a line out, and the papers that use it; their labels, rising."""
    # True would be found as the line 1.
    if not is_upto(number, LAST_NUMBER) or number not in stand.pairs:
        raise NoLine(number)
    gone = [label for label in sorted(stand.papers) if number in stand.papers[label][2]]
    stand.pairs = without(stand.pairs, [number])
    stand.papers = without(stand.papers, gone)
    return gone


def put(stand, word_name, word):
    """Keep a word by a name."""
    need_name(word_name)
    need_word(word)
    if word_name not in stand.texts and len(stand.texts) >= MOST_NAMES:
        raise Full()
    stand.add_text(word_name, word)


def forget(stand, word_name):
    """Keep no word by a name any more."""
    stand.text_of(word_name)
    stand.texts = without(stand.texts, [word_name])


def shelve(stand, label, one, other, rounds=ROUNDS):
    """Keep by a label the papers that the words of two names are alike by the lines."""
    need_name(label)
    if label in stand.papers:
        raise Taken(label)
    first, second = stand.text_of(one), stand.text_of(other)
    need_rounds(rounds)
    if len(stand.papers) >= MOST_PAPERS:
        raise Full()
    verdict = alike(first, second, stand.sides_by_number(), rounds=rounds)
    if verdict[0] != "alike":
        raise Unproved(verdict[0])
    numbers, forth, back = by_lines(list(stand.pairs), verdict[1], verdict[2])
    stand.add_paper(label, (first, second, numbers, forth, back))


def unshelve(stand, label):
    """Keep no papers by a label any more."""
    stand.paper_of(label)
    stand.papers = without(stand.papers, [label])


DEEDS = {"like": like, "strike": strike, "put": put, "forget": forget, "shelve": shelve, "unshelve": unshelve}


def done(stand, deed):
    """Do a deed, a tuple of its word and what is handed in by place; what it tells."""
    action = DEEDS[deed[0]]
    things = deed[1:]
    return action(stand, *things)


def by_lines(numbers, forth, back):
    """The numbers, of those of all lines, that the rows of two papers use, and these, with places in these numbers."""
    used = sorted(set([row[2] for row in forth + back if row[0] == "like"]))
    places = {which: place for place, which in enumerate(used)}
    return (tuple([numbers[which] for which in used]), renamed(forth, places), renamed(back, places))


def renamed(rows, places):
    """Rows with other numbers for likenesses."""
    return tuple([("like", row[1], places[row[2]], row[3]) if row[0] == "like" else row for row in rows])
