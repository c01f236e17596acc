"""What kinds of values things are: what all modules ask before they refuse one."""


def is_int(thing):
    """Whether a thing is an integer."""
    # True and False are integers for Python, and none here.
    return isinstance(thing, int) and thing is not True and thing is not False


def is_int_within(thing, least, most):
    """Whether a thing is an integer from least to most."""
    return is_int(thing) and least <= thing <= most


def is_tuple(thing, least, most):
    """Whether a thing is a tuple of least to most things."""
    return isinstance(thing, tuple) and least <= len(thing) <= most


def first_outside(things, least, most):
    """The number of the first thing that is no integer from least to most, or None."""
    # All in one row, as there can be many things: a call for each one takes several times as long.
    for number, thing in enumerate(things):
        if not isinstance(thing, int) or thing is True or thing is False or not least <= thing <= most:
            return number
    return None
