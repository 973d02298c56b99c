"""How numbers and words are written in rows."""

FIGURES = "0123456789"
MOST_FIGURES = 9

# Stands for the word without signs.
NO_SIGNS = "-"


def is_number(text):
    """Whether a text is a number of 1 to 9 figures without a needless nought."""
    if not 1 <= len(text) <= MOST_FIGURES or not all([figure in FIGURES for figure in text]):
        return False
    return text == "0" or text[0] != "0"


def shown(word):
    """A word as it is written."""
    return NO_SIGNS if word == "" else word


def meant(text):
    """The word that is written so, if it is one."""
    return "" if text == NO_SIGNS else text
