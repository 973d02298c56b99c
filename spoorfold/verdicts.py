"""Verdicts: whether a claim follows, and whether two words are alike."""

from spoorfold.webs import ROUNDS, Web
from spoorfold.words import need_pairs, need_words


def judge(facts, likenesses, one, other, *, rounds=ROUNDS):
    """Whether the claim (one, other) follows from facts by likenesses."""
    need_pairs(facts)
    need_pairs(likenesses)
    need_words([one, other])
    return judged(Web(facts, likenesses, rounds=rounds), one, other)


def alike(one, other, likenesses, *, rounds=ROUNDS):
    """Whether two words are alike by likenesses."""
    need_words([one, other])
    need_pairs(likenesses)
    return compared(web_of(one, likenesses, rounds), web_of(other, likenesses, rounds), one, other)


def beneath(one, other, likenesses, *, rounds=ROUNDS):
    """Whether a word is beneath another one by likenesses."""
    need_words([one, other])
    need_pairs(likenesses)
    return judged(web_of(one, likenesses, rounds), one, other)


# The hall keeps webs, so what follows takes webs that are laid.


def web_of(word, likenesses, rounds):
    """The web of a word as a fact beside itself."""
    return Web([(word, word)], likenesses, rounds=rounds)


def judged(web, one, other):
    """What a web tells of the claim (one, other)."""
    paper = web.paper(one, other)
    if paper is not None:
        return ("follows", paper)
    return ("fails" if web.closed() else "open", web.world())


def compared(first, second, one, other):
    """What the web of one word and that of another one tell of both."""
    forth, back = first.paper(one, other), second.paper(other, one)
    if forth is not None and back is not None:
        return ("alike", forth, back)
    if forth is None and first.closed():
        return ("unlike", 0, first.world())
    if back is None and second.closed():
        return ("unlike", 1, second.world())
    return ("open",)
