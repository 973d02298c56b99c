"""The refusals. Each one tells its own word, and what was wrong where that can be told."""


class SpoorError(ValueError):
    """What is handed in is refused for what it is, or for what stands already."""

    def __init__(self, word="spoorerror", message="refused"):
        ValueError.__init__(self, message)
        self.word = word


class BadWord(SpoorError):
    """A text is no word."""

    def __init__(self):
        SpoorError.__init__(self, "badword", "a word has at most 60 signs, each from a to h or from A to H")


class BadName(SpoorError):
    """A text is no name."""

    def __init__(self):
        SpoorError.__init__(self, "badname", "a name has 1 to 8 letters from a to z")


class BadWorld(SpoorError):
    """Places and moves make no world."""

    def __init__(self):
        SpoorError.__init__(self, "badworld", "these places and moves make no world")


class BadStep(SpoorError):
    """A step is none, or does not fit."""

    def __init__(self, at):
        SpoorError.__init__(self, "badstep", f"step {at} is none or does not fit")
        self.at = at


class BadPaper(SpoorError):
    """A row of a paper is no step of one."""

    def __init__(self, at):
        SpoorError.__init__(self, "badpaper", f"step {at} of the paper makes no claim")
        self.at = at


class BadRounds(SpoorError):
    """A number of rounds is none."""

    def __init__(self):
        SpoorError.__init__(self, "badrounds", "rounds are a number from 0 to 20")


class BadPage(SpoorError):
    """A text is no page."""

    def __init__(self, row):
        SpoorError.__init__(self, "badpage", f"row {row} of the page is wrong")
        self.row = row


class TooLong(SpoorError):
    """A side of a likeness has too many signs."""

    def __init__(self):
        SpoorError.__init__(self, "toolong", "a side of a likeness has at most 12 signs")


class Taken(SpoorError):
    """A label stands on the shelf already."""

    def __init__(self, name):
        SpoorError.__init__(self, "taken", f"{name!r} is taken")
        self.name = name


class Full(SpoorError):
    """No more of a sort can be kept."""

    def __init__(self):
        SpoorError.__init__(self, "full", "no more of these can be kept")


class Heavy(SpoorError):
    """A world has more motions than are let."""

    def __init__(self, many):
        SpoorError.__init__(self, "heavy", f"there are more than {many} motions")
        self.many = many


class Unproved(SpoorError):
    """Two words were not shown to be alike."""

    def __init__(self, how):
        SpoorError.__init__(self, "unproved", f"the words are not shown to be alike: {how}")
        self.how = how


class Stopped(SpoorError):
    """One of several deeds was refused, and so all of them."""

    def __init__(self, at, kind):
        SpoorError.__init__(self, "stopped", f"deed {at} is refused: {kind}")
        self.at = at
        self.kind = kind


class Wide(SpoorError):
    """A world has too many places for its motions to be told."""

    def __init__(self):
        SpoorError.__init__(self, "wide", "motions are told of at most 12 places")


class Lacking(LookupError):
    """What is asked for is not there."""

    def __init__(self, word="lacking", message="not there"):
        LookupError.__init__(self, message)
        self.word = word


class NoPlace(Lacking):
    """A world has no such place."""

    def __init__(self, place):
        Lacking.__init__(self, "noplace", f"there is no place {place}")
        self.place = place


class NoName(Lacking):
    """Nothing is kept under a name."""

    def __init__(self, name):
        Lacking.__init__(self, "noname", f"nothing is called {name!r}")
        self.name = name


class NoLine(Lacking):
    """No line stands with a number."""

    def __init__(self, number):
        Lacking.__init__(self, "noline", f"there is no line {number}")
        self.number = number


class NothingLeft(Lacking):
    """No deed is left to be undone or redone."""

    def __init__(self):
        Lacking.__init__(self, "nothingleft", "no deed is left")
