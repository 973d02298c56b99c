"""Roses: words that come home, and what is made of them."""

from spoorfold.petals import Petals
from spoorfold.webs import Web
from spoorfold.words import glued, letters_in, need_word, need_words, reduced, turned
from spoorfold.worlds import world_by


def rose(words):
    """The rose of words."""
    need_words(words)
    return rose_web(words).world()


def made_of(words, word):
    """A row of pairs (number, forth) by which a word is made of words, None where it is not."""
    need_words(words)
    need_word(word)
    goal = reduced(word)
    if rose_web(words).go(goal) != 0:
        return None
    return list(Petals([reduced(text) for text in words]).home(goal))


def makers(world):
    """Words that come home in a world from place 0, of which all that do are made."""
    seen = world.seen()
    ways = seen.ways()
    tree = tree_of(ways)
    told = []
    for letter, start, end in seen.moves():
        if (letter, start, end) not in tree:
            told.append(glued(glued(ways[start], letter), turned(ways[end])))
    return told


def sides(words, letters):
    """How many places the rose of words has, None where it is not whole for some letters."""
    world = rose(words)
    return len(world) if world.is_whole(letters) else None


def shared(words, others):
    """The rose that lets home just what comes home in the roses of both lots of words."""
    need_words(words)
    need_words(others)
    return world_by(pruned(crossed(rose(words), rose(others))))


def parting(words, word):
    """Tell a word apart from words by a whole world, or show that it is made of them by a paper."""
    need_words(words)
    need_word(word)
    goal = reduced(word)
    paper = rose_web(words).paper(goal, "")
    if paper is not None:
        return ("home", paper)
    # The way of the word is laid beside the rose, and ends elsewhere than at the start.
    world = Web(home_facts(words) + [(goal, goal)], []).world()
    return ("away", world.widened(letters_in("".join(words) + word)))


def home_facts(words):
    """The facts that each of some words, reduced, comes home."""
    return [(reduced(word), "") for word in words]


def rose_web(words):
    """The web of words that come home."""
    return Web(home_facts(words), [])


def tree_of(ways):
    """The moves, as keys, by which places are come to first, ways being the least words to them."""
    numbers = {way: number for number, way in enumerate(ways)}
    tree = {}
    for way in ways[1:]:
        sign, near, far = way[-1], numbers[way[:-1]], numbers[way]
        move = (sign, near, far) if sign.islower() else (sign.lower(), far, near)
        tree[move] = True
    return tree


def crossed(one, other):
    """The pairs of places that words lead to in both worlds, with, by signs, the pairs that they lead to."""
    outs = {(0, 0): {}}
    waiting = [(0, 0)]
    while waiting:
        here = waiting.pop()
        for sign in one.leads:
            there = (one.leads[sign].get(here[0]), other.leads[sign].get(here[1]))
            if None not in there:
                outs[here][sign] = there
                if there not in outs:
                    outs[there] = {}
                    waiting.append(there)
    return outs


def pruned(outs):
    """What is left of places when those but the first that have one way alone are taken out, again and again."""
    left = {place: dict(outs[place]) for place in outs}
    start = list(left)[0]
    waiting = [place for place in left if len(left[place]) == 1 and place != start]
    while waiting:
        place = waiting.pop()
        sign, near = list(left.pop(place).items())[0]
        del left[near][sign.swapcase()]
        if len(left[near]) == 1 and near != start:
            waiting.append(near)
    return left
