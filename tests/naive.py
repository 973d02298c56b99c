"""What the document says of words and tracks, written again in the slowest way, to test against."""

import itertools

RISING = "aAbBcCdDeEfFgGhH"
PAIRS = [small + great for small, great in zip("abcdefgh", "ABCDEFGH")]
PAIRS += [pair[::-1] for pair in PAIRS]


def words_upto(many, signs="aAbB"):
    """All words of at most so many of these signs, by rising."""
    for length in range(many + 1):
        for row in itertools.product(signs, repeat=length):
            yield "".join(row)


def reduced(word):
    """Take out a pair, whichever is found, as long as there is one."""
    while any(pair in word for pair in PAIRS):
        for pair in PAIRS:
            word = word.replace(pair, "", 1)
    return word


def undone(word):
    return "".join(sign.lower() if sign.isupper() else sign.upper() for sign in reversed(word))


def rank(word):
    return (len(word), [RISING.index(sign) for sign in word])


def spots(word):
    return sorted({reduced(word[:many]) for many in range(len(word) + 1)}, key=rank)


def plain(word):
    every = spots(word)
    tips = [spot for spot in every
            if spot and not any(other != spot and other.startswith(spot) for other in every)]
    return "".join(spot + undone(spot) for spot in tips) + reduced(word)


def goes(word, place, moves):
    """Where a word leads, moves being a dict from each small letter to a dict of places; None: nowhere."""
    for sign in word:
        there = moves[sign.lower()]
        if sign.isupper():
            there = {to: start for start, to in there.items()}
        place = there.get(place)
        if place is None:
            return None
    return place
