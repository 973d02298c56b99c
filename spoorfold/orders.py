"""Orders: what the letters of a small world make."""

from spoorfold.errors import Heavy, Wide
from spoorfold.words import SIGNS, need_words

MOST_MOTIONS = 1000

# How many places a world may have for its motions to be told.
MOST_WIDE = 12


def motions(world, *, most=MOST_MOTIONS):
    """The motions of a world with their least words, rising by these."""
    need_narrow(world)
    return [(word, motion) for motion, word in made_in(world, most).items()]


def stills(world):
    """The stills of a world, rising."""
    need_narrow(world)
    return stills_of(made_in(world, MOST_MOTIONS))


def boxes(world):
    """The boxes of a world, rising, each as its stills and how many turnings it has."""
    need_narrow(world)
    made = made_in(world, MOST_MOTIONS)
    ends = ends_by_starts(made)
    told = []
    boxed = {}
    for still in stills_of(made):
        if still not in boxed:
            # Motions go on from one another, so from this still one motion leads to each still of its box.
            box = sorted(set(ends[still]))
            boxed.update({member: True for member in box})
            told.append((tuple(box), ends[still].count(still)))
    return told


def kin(world):
    """The core of a world, and its turnings, rising."""
    need_narrow(world)
    made = made_in(world, MOST_MOTIONS)
    core = core_of(made)
    return (core, sorted(set([tuple([motion[place] for place in core]) for motion in made])))


def are_kin(world, one, other):
    """Whether two words lead from each place of the core to one place, or both nowhere."""
    need_narrow(world)
    need_words([one, other])
    core = core_of(made_in(world, MOST_MOTIONS))
    return all([world.led(one, place) == world.led(other, place) for place in core])


def need_narrow(world):
    """Refuse a world that has too many places."""
    if len(world) > MOST_WIDE:
        raise Wide()


def made_in(world, most):
    """The motions of a world, each with its least word, by rising words."""
    steps = [(sign, world.motion(sign)) for sign in SIGNS if sign.lower() in world.letters()]
    made = {world.motion(""): ""}
    edge = list(made)
    while edge:
        beyond = []
        for motion in edge:
            for sign, step in steps:
                further = behind(motion, step)
                if further not in made:
                    if len(made) == most:
                        raise Heavy(most)
                    made[further] = made[motion] + sign
                    beyond.append(further)
        edge = beyond
    return made


def behind(motion, step):
    """A motion and another one behind it."""
    return tuple([None if place is None else step[place] for place in motion])


def stills_of(made):
    """The stills among motions, rising."""
    return sorted([starts_of(motion) for motion in made if is_still(motion)])


def is_still(motion):
    """Whether a motion leads each place to itself or nowhere."""
    return all([end is None or end == start for start, end in enumerate(motion)])


def starts_of(motion):
    """The places from which a motion leads somewhere, rising."""
    return tuple([start for start, end in enumerate(motion) if end is not None])


def ends_of(motion):
    """The places to which a motion leads, rising."""
    return tuple(sorted([end for end in motion if end is not None]))


def ends_by_starts(made):
    """By the places that motions lead from, the places to which each of these motions leads."""
    ends = {}
    for motion in made:
        ends.setdefault(starts_of(motion), []).append(ends_of(motion))
    return ends


def core_of(made):
    """The places that all stills among motions have, rising."""
    every = stills_of(made)
    return tuple([place for place in every[0] if all([place in still for still in every])])
