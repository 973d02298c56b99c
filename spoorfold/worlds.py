"""Worlds: places, and letters that lead from some of them to some of them, one to one."""

from spoorfold.errors import BadWorld, NoPlace
from spoorfold.kinds import is_upto
from spoorfold.words import LETTERS, SIGNS, need_pairs, need_word

MOST_PLACES = 1000


class World:
    """Places from 0 on, and moves (letter, from, to)."""

    def __init__(self, many, moves):
        if not is_upto(many, MOST_PLACES) or many == 0:
            raise BadWorld()
        self.places = list(range(many))
        # By each sign, great ones too, where it leads from the places from which it leads.
        self.leads = leads_by(many, moves)

    def moves(self):
        """The moves, rising."""
        return sorted([(letter, start, end) for letter in LETTERS for start, end in self.leads[letter].items()])

    def letters(self):
        """The letters that have a move, rising."""
        return "".join([letter for letter in LETTERS if self.leads[letter] != {}])

    def go(self, word, place=0):
        """Where a word leads from a place, None: nowhere."""
        need_word(word)
        self.need_place(place)
        return self.led(word, place)

    def motion(self, word):
        """Where a word leads from each place."""
        need_word(word)
        return tuple([self.led(word, place) for place in self.places])

    def seen(self, place=0):
        """The world of the places that words lead to from a place, numbered as they are come to."""
        self.need_place(place)
        numbers = {here: number for number, here in enumerate(self.come_to(place))}
        return world_of(len(numbers), {sign: renumbered(self.leads[sign], numbers) for sign in SIGNS})

    def ways(self, place=0):
        """The least words to the places that words lead to from a place, by their numbers as seen from there."""
        self.need_place(place)
        return list(self.come_to(place).values())

    def is_whole(self, letters):
        """Whether each of some letters leads from each place."""
        return all([len(self.leads[letter]) == len(self.places) for letter in letters])

    def widened(self, letters):
        """This world with moves added until it is whole for some letters."""
        added = []
        for letter in letters:
            starts = [place for place in self.places if place not in self.leads[letter]]
            ends = [place for place in self.places if place not in self.leads[letter.upper()]]
            added += [(letter, start, end) for start, end in zip(starts, ends)]
        return World(len(self.places), self.moves() + added)

    def breaks(self, likenesses):
        """The first (number, place) at which a likeness does not hold, None where all hold."""
        need_pairs(likenesses)
        for number, (left, right) in enumerate(likenesses):
            for place in self.places:
                if self.led(left, place) != self.led(right, place):
                    return (number, place)
        return None

    def __eq__(self, other):
        return isinstance(other, World) and self.places == other.places and self.leads == other.leads

    def __len__(self):
        return len(self.places)

    def __repr__(self):
        return f"World({len(self.places)} places, {len(self.moves())} moves)"

    def need_place(self, place):
        """Refuse what is no place of this world."""
        if not is_upto(place, len(self.places) - 1):
            raise NoPlace(place)

    def led(self, word, place):
        """Where a word of any length leads from a place, None: nowhere."""
        here = place
        for sign in word:
            here = self.leads[sign].get(here)
            if here is None:
                return None
        return here

    def come_to(self, place):
        """The places that words lead to from a place, in the order in which they are come to, with least words."""
        words = {place: ""}
        edge = [place]
        while edge:
            beyond = []
            for here in edge:
                for sign in SIGNS:
                    there = self.leads[sign].get(here)
                    if there is not None and there not in words:
                        words[there] = words[here] + sign
                        beyond.append(there)
            edge = beyond
        return words


def leads_by(many, moves):
    """Where each sign leads by moves between so many places."""
    leads = {sign: {} for sign in SIGNS}
    for move in moves:
        if not is_move(move, many):
            raise BadWorld()
        letter, start, end = move
        if start in leads[letter] or end in leads[letter.upper()]:
            raise BadWorld()
        leads[letter][start] = end
        leads[letter.upper()][end] = start
    return leads


def is_move(move, many):
    """Whether a tuple is a move between so many places."""
    if len(move) != 3 or not is_upto(move[1], many - 1) or not is_upto(move[2], many - 1):
        return False
    return isinstance(move[0], str) and len(move[0]) == 1 and move[0] in LETTERS


def renumbered(led, numbers):
    """Where a sign leads, told by new numbers, of the places that have one."""
    return {numbers[start]: numbers[end] for start, end in led.items() if start in numbers}


def world_of(many, leads):
    """The world of so many places in which signs lead so."""
    world = World(1, [])
    world.places = list(range(many))
    world.leads = leads
    return world


def world_by(outs):
    """The world in which each place leads by signs as told, whatever it is told by, seen from the first one."""
    numbers = {place: number for number, place in enumerate(outs)}
    leads = {sign: {} for sign in SIGNS}
    for place in outs:
        for sign in outs[place]:
            leads[sign][numbers[place]] = numbers[outs[place][sign]]
    return world_of(len(numbers), leads).seen()
