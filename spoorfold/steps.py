"""Flat steps: small changes of a word that leave what it does as it was."""

from spoorfold.errors import BadStep
from spoorfold.kinds import is_upto
from spoorfold.tracks import Track
from spoorfold.words import is_word, need_word, rank, turned

# How many things a step has, by its word.
THINGS = {"there": 3, "back": 3, "swap": 4}


def stepped(word, step):
    """The word behind a step."""
    need_word(word)
    return replaced(word, step, 0)


def walked(word, steps):
    """The word behind several steps."""
    need_word(word)
    here = word
    for number, step in enumerate(steps):
        here = replaced(here, step, number)
    return here


def to_plain(word):
    """Steps that lead from a word to the plain word of its track."""
    need_word(word)
    if word == Track(word).plain():
        return []
    steps, spots, end = unrolled(word)
    if not any([spot.startswith(end) for spot in spots]):
        steps.append(("there", width(spots), end))
        spots.append(end)
    # As in a dictionary, for so a spot that begins others stands right ahead of one that it begins.
    steps += swaps(spots, lambda spot: spot)
    spots = sorted(spots)
    steps += backs(spots)
    spots = tips(spots)
    return steps + swaps(spots, rank)


def between(one, other):
    """Steps that lead from a word to another one, None where they have not one track."""
    need_word(one)
    need_word(other)
    if Track(one) != Track(other):
        return None
    return to_plain(one) + [against(step) for step in reversed(to_plain(other))]


def replaced(word, step, number):
    """A word of any length behind the step with this number."""
    if not is_step(step, len(word)):
        raise BadStep(number)
    old, new = sides(step)
    at = step[1]
    behind = at + len(old)
    if word[at:behind] != old:
        raise BadStep(number)
    return word[:at] + new + word[behind:]


def is_step(step, most):
    """Whether a tuple is a step with at most so many signs ahead, be what it replaces there or not."""
    if step == () or THINGS.get(step[0]) != len(step):
        return False
    return is_upto(step[1], most) and all([is_way(thing) for thing in step[2:]])


def is_way(thing):
    """Whether a thing is a word with a sign."""
    return isinstance(thing, str) and thing != "" and is_word(thing)


def sides(step):
    """What a step replaces, and by what."""
    way = step[2]
    if step[0] == "swap":
        other = step[3]
        return loop(way) + loop(other), loop(other) + loop(way)
    if step[0] == "there":
        return way, loop(way) + way
    return loop(way) + way, way


def against(step):
    """The step that takes a step back."""
    if step[0] == "swap":
        return ("swap", step[1], step[3], step[2])
    return ("back" if step[0] == "there" else "there", step[1], step[2])


def loop(way):
    """A word and it undone."""
    return way + turned(way)


# From here on spots stand for a word: that of each of them its loop, all behind one another.


def width(spots):
    """How many signs the word of spots has."""
    return 2 * sum([len(spot) for spot in spots])


def unrolled(word):
    """Steps that lead from a word to that of some spots and a reduced word behind it; these spots, that word."""
    steps = []
    spots = []
    end = ""
    for sign in word:
        if end[-1:] != sign.swapcase():
            end += sign
            continue
        at = width(spots)
        near = end[:-1]
        # The sign and the one that it undoes go ahead of the way back, and the way there is left behind it.
        if near != "":
            steps += [("there", at, near), ("swap", at + len(near), turned(near), end[-1])]
        spots.append(end)
        end = near
    return steps, spots, end


def swaps(spots, key):
    """Steps by which spots come to rise by a key."""
    steps = []
    row = list(spots)
    for most in range(len(row) - 1, 0, -1):
        for at in range(most):
            one, other = row[at], row[at + 1]
            if key(one) > key(other):
                steps.append(("swap", width(row[:at]), one, other))
                row[at], row[at + 1] = other, one
    return steps


def backs(spots):
    """Steps that take out each spot that begins the one behind it."""
    steps = []
    # From the last on, so that nothing ahead has moved.
    for at in reversed(range(len(spots) - 1)):
        if spots[at + 1].startswith(spots[at]):
            steps.append(("back", width(spots[:at]), spots[at]))
    return steps


def tips(spots):
    """The spots that do not begin the one behind them."""
    return [spot for at, spot in enumerate(spots) if at == len(spots) - 1 or not spots[at + 1].startswith(spot)]
