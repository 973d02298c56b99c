"""What the document says, written again in the slowest way, to test against."""

import itertools

RISING = "aAbBcCdDeEfFgGhH"
PAIRS = [small + great for small, great in zip("abcdefgh", "ABCDEFGH")]
PAIRS += [pair[::-1] for pair in PAIRS]


def words_upto(many, signs="aAbB"):
    """All words of at most so many of these signs, by rising."""
    for length in range(many + 1):
        for row in itertools.product(signs, repeat=length):
            yield "".join(row)


def reduced(word):
    """Take out a pair, whichever is found, as long as there is one."""
    while any(pair in word for pair in PAIRS):
        for pair in PAIRS:
            word = word.replace(pair, "", 1)
    return word


def undone(word):
    return "".join(sign.lower() if sign.isupper() else sign.upper() for sign in reversed(word))


def rank(word):
    return (len(word), [RISING.index(sign) for sign in word])


def spots(word):
    return sorted({reduced(word[:many]) for many in range(len(word) + 1)}, key=rank)


def plain(word):
    every = spots(word)
    tips = [spot for spot in every
            if spot and not any(other != spot and other.startswith(spot) for other in every)]
    return "".join(spot + undone(spot) for spot in tips) + reduced(word)


def goes(word, place, moves):
    """Where a word leads, moves being a dict from each small letter to a dict of places; None: nowhere."""
    for sign in word:
        there = moves[sign.lower()]
        if sign.isupper():
            there = {to: start for start, to in there.items()}
        place = there.get(place)
        if place is None:
            return None
    return place


def led(word, place, moves):
    """Where a word leads, moves being triples; None: nowhere."""
    table = {letter: {} for letter in "abcdefgh"}
    for letter, start, end in moves:
        table[letter][start] = end
    return goes(word, place, table)


def seen(many, moves, place):
    """The least words to the places that words lead to from a place, and the moves by their numbers there.

    All words are tried by rising, so this is for small worlds.
    """
    letters = sorted({letter for letter, _, _ in moves})
    signs = [sign for letter in letters for sign in (letter, letter.upper())]
    ways = {}
    for word in words_upto(many - 1, signs):
        ways.setdefault(led(word, place, moves), word)
    ways.pop(None, None)
    numbers = {here: number for number, here in enumerate(ways)}
    told = sorted((letter, numbers[start], numbers[end]) for letter, start, end in moves if start in numbers)
    return list(ways.values()), told


def claim(facts, likenesses, ahead, row):
    """The claim that a step of a paper makes, None where it is no step."""
    def number(thing, things):
        return type(thing) is int and thing in range(len(things))
    kind, *things = row
    if kind == "fact" and len(things) == 1 and number(things[0], facts):
        return facts[things[0]]
    if kind == "start" and not things:
        return ("", "")
    if not things or not number(things[0], ahead):
        return None
    x, z = ahead[things[0]]
    if kind == "turn" and len(things) == 1:
        return (z, x)
    if kind == "on" and len(things) == 2 and number(things[1], ahead):
        longer, end = ahead[things[1]]
        fits = [longer[many:] for many in range(len(longer) + 1) if longer[:many] == z]
        return (x + fits[0], end) if fits else None
    if kind == "home" and len(things) == 1 and x:
        return (x + undone(x[-1]), x[:-1])
    if kind == "like" and len(things) == 3 and number(things[1], likenesses) and type(things[2]) is bool:
        old, new = likenesses[things[1]] if things[2] else reversed(likenesses[things[1]])
        fits = [x[:many] for many in range(len(x) + 1) if x[many:] == old]
        return (fits[0] + new, z) if fits else None
    if kind == "part" and len(things) == 2 and number(things[1], x + "-"):
        return (x[:things[1]], x[:things[1]])
    return None


def claims(facts, likenesses, rows):
    """All claims of a paper, None where it is none."""
    told = []
    for row in rows:
        made = claim(facts, likenesses, told, row)
        if made is None:
            return None
        told.append(made)
    return told


class Web:
    """A web, laid and folded way by way, with all ways on the table until they are folded."""

    def __init__(self, facts, likenesses, rounds):
        self.many = 1
        moves = set()
        for one, other in facts:
            end = self.fresh()
            moves |= self.way(0, one, end) | self.way(0, other, end)
        self.moves = folded(moves)
        self.rounds = 0
        self.likenesses = likenesses
        while self.rounds < rounds and not self.closed():
            further = self.further()
            if len(places_of(further)) > 60:
                break
            self.moves = further
            self.rounds += 1

    def fresh(self):
        self.many += 1
        return self.many - 1

    def way(self, start, word, end):
        """The moves of a way; the empty word's is a move by no letter, which makes two places one."""
        places = [start] + [self.fresh() for _ in word[1:]] + [end]
        if not word:
            return {("", start, end)}
        steps = zip(places, word, places[1:])
        return {(sign, here, there) if sign.islower() else (sign.lower(), there, here) for here, sign, there in steps}

    def closed(self):
        return all(led(one, place, self.moves) == led(other, place, self.moves)
                   for one, other in self.likenesses for place in places_of(self.moves))

    def further(self):
        laid = set(self.moves)
        for left, right in self.likenesses:
            for one, other in [(left, right), (right, left)]:
                for place in places_of(self.moves):
                    end = led(one, place, self.moves)
                    if end is not None:
                        laid |= self.way(place, other, end)
        return folded(laid)


def places_of(moves):
    return {0} | {place for _, *ends in moves for place in ends}


def folded(moves):
    """Make two places one as long as there is a cause, in whatever order a set has."""
    while True:
        pair = cause(moves)
        if pair is None:
            return {move for move in moves if move[0]}
        kept, gone = sorted(pair)
        moves = {(letter, *[kept if place == gone else place for place in ends]) for letter, *ends in moves}


def cause(moves):
    """Two places that must be one, None where there are none."""
    ends, starts = {}, {}
    for letter, start, end in moves:
        if not letter and start != end:
            return (start, end)
        if letter and ends.setdefault((letter, start), end) != end:
            return (ends[letter, start], end)
        if letter and starts.setdefault((letter, end), start) != start:
            return (starts[letter, end], start)
    return None


def motions(many, moves):
    """The motions of a world, each with its least word: all are found by making, then all words tried by rising."""
    letters = sorted({letter for letter, _, _ in moves})
    signs = [sign for letter in letters for sign in (letter, letter.upper())]

    def motion(word):
        return tuple(led(word, place, moves) for place in range(many))
    found = {motion("")}
    while True:
        more = found | {tuple(None if place is None else motion(sign)[place] for place in one)
                        for one in found for sign in signs}
        if more == found:
            break
        found = more
    least = {}
    for length in itertools.count():
        for row in itertools.product(signs, repeat=length):
            least.setdefault(motion("".join(row)), "".join(row))
        if len(least) == len(found):
            return sorted([(word, one) for one, word in least.items()], key=lambda pair: rank(pair[0]))


def boxes(made):
    """The boxes of motions, by what the document says of two stills and of a still's turnings."""
    def still(places):
        return tuple(place if place in places else None for place in range(len(made[0])))

    def leads_just(one, here, there):
        return {start for start, end in enumerate(one) if end is not None} == set(here) and \
            {end for end in one if end is not None} == set(there)
    rest = [places for many in range(len(made[0]) + 1) for places in itertools.combinations(range(len(made[0])), many)
            if still(places) in made]
    told = []
    while rest:
        box = [places for places in rest if any(leads_just(one, rest[0], places) for one in made)]
        counts = {sum(leads_just(one, places, places) for one in made) for places in box}
        assert len(counts) == 1
        told.append((tuple(sorted(box)), counts.pop()))
        rest = [places for places in rest if places not in box]
    return sorted(told)
