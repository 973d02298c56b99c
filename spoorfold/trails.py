"""Trails: steps of papers as they are found, of which a paper takes those that it needs."""

# How many claims ahead a step names, right behind its word.
NAMED = {"start": 0, "fact": 0, "turn": 1, "on": 2, "home": 1, "like": 1, "part": 1}


class Trail:
    """Steps, each of which makes a claim out of those ahead; a step is told by its number."""

    def __init__(self):
        self.rows = []

    def wrote(self, *row):
        """A step that is added."""
        self.rows.append(row)
        return len(self.rows) - 1

    def turn(self, number):
        """Of (x, y): (y, x)."""
        if self.rows[number][0] == "turn":
            return self.rows[number][1]
        return self.wrote("turn", number)

    def over(self, number, further):
        """Of (x, y) and (x and t behind it, z): (y and t behind it, z)."""
        return self.wrote("on", self.turn(number), further)

    def retraced(self, number):
        """Of (x and a sign behind it, y): (y and the sign undone behind it, x)."""
        return self.over(number, self.wrote("home", number))

    def paper(self, last):
        """The paper of the claim of a step: the steps that it needs, each once."""
        rows = []
        places = {}
        numbers = {}
        for number in self.needed(last):
            row = renamed(self.rows[number], numbers)
            if row not in places:
                places[row] = len(rows)
                rows.append(row)
            numbers[number] = places[row]
        return rows

    def needed(self, last):
        """The numbers of the steps that a step is made from, and its own, rising."""
        found = {last: True}
        waiting = [last]
        while waiting:
            row = self.rows[waiting.pop()]
            for number in claims_of(row):
                if number not in found:
                    found[number] = True
                    waiting.append(number)
        return sorted(found)


def claims_of(row):
    """The claims that a step names."""
    return row[1:1 + NAMED[row[0]]]


def renamed(row, numbers):
    """A step with other numbers for the claims that it names."""
    named = [numbers[number] for number in claims_of(row)]
    rest = row[1 + len(named):]
    return (row[0], *named, *rest)
