"""Pages: what stands in a hall, written down."""

from spoorfold.errors import BadPage
from spoorfold.hall import hall_of
from spoorfold.stands import MOST_LINES, MOST_NAMES, MOST_SIDE, Stand, is_name
from spoorfold.words import is_word
from spoorfold.written import is_number, meant, shown


def page(hall):
    """The page of a hall."""
    rows = [f"coming {hall.coming()}"]
    rows += [f"like {number} {shown(left)} {shown(right)}" for number, left, right in hall.lines()]
    rows += [f"word {name} {shown(word)}" for name, word in hall.words()]
    return "".join([row + "\n" for row in rows])


def read_page(text):
    """The hall of a page."""
    # Behind the last line feed there is one piece more, which is empty.
    *rows, rest = text.split("\n")
    stand = Stand()
    for number, row in enumerate(rows):
        if not is_added(stand, number, row.split(" ")):
            raise BadPage(number)
    if rows == [] or rest != "":
        raise BadPage(len(rows))
    return hall_of(stand)


def is_added(stand, number, parts):
    """Whether the row with a number is right; then what it tells is added to the stand."""
    if number == 0:
        return is_coming(stand, parts)
    if parts[0] == "like":
        return is_line(stand, parts)
    return is_text(stand, parts)


def is_coming(stand, parts):
    """Whether a row tells the number of the line that comes; it is told then."""
    if len(parts) != 2 or parts[0] != "coming" or not is_number(parts[1]) or parts[1] == "0":
        return False
    stand.following = int(parts[1])
    return True


def is_line(stand, parts):
    """Whether a row tells a line; it is added then."""
    if len(parts) != 4 or not is_number(parts[1]) or not is_side(parts[2]) or not is_side(parts[3]):
        return False
    number = int(parts[1])
    if len(stand.pairs) >= MOST_LINES or stand.texts != {} or not last(stand.pairs, 0) < number < stand.following:
        return False
    stand.add_line(number, meant(parts[2]), meant(parts[3]))
    return True


def is_text(stand, parts):
    """Whether a row tells a word by a name; it is added then."""
    if len(parts) != 3 or parts[0] != "word" or not is_name(parts[1]) or not is_written_word(parts[2]):
        return False
    if len(stand.texts) >= MOST_NAMES or not last(stand.texts, "") < parts[1]:
        return False
    stand.add_text(parts[1], meant(parts[2]))
    return True


def is_written_word(text):
    """Whether a text is a word as it is written."""
    return text != "" and is_word(meant(text))


def is_side(text):
    """Whether a text is a side of a line as it is written."""
    return is_written_word(text) and len(text) <= MOST_SIDE


def last(things, other):
    """The last key of a dict, another thing where it has none."""
    return list(things)[-1] if things else other
