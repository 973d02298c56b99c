"""What kind of thing was handed in."""


def is_upto(thing, most):
    """Whether a thing is a whole number from 0 to most; True and False are none."""
    return isinstance(thing, int) and not isinstance(thing, bool) and 0 <= thing <= most
