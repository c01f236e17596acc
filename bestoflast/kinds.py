"""What kinds of values things are: what all modules ask before they refuse one."""


def is_int(thing):
    """Whether a thing is an integer."""
    # True and False are integers for Python, and none here.
    return isinstance(thing, int) and not isinstance(thing, bool)


def is_int_within(thing, least, most):
    """Whether a thing is an integer from least to most."""
    return is_int(thing) and least <= thing <= most


def is_tuple(thing, least, most):
    """Whether a thing is a tuple of least to most things."""
    return isinstance(thing, tuple) and least <= len(thing) <= most


def first_outside(things, least, most):
    """The number of the first thing that is no integer from least to most, or None."""
    for number, thing in enumerate(things):
        if not is_int_within(thing, least, most):
            return number
    return None
