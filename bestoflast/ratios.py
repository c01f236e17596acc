"""FRACTIONS, and the greatest one of what rings pay, divided by what their steps count."""

from math import gcd

from bestoflast.kinds import is_int, is_tuple
from bestoflast.walks import climb


def reduced(part, of):
    """The FRACTION of two integers, the second one from 1 on."""
    common = gcd(part, of)
    return part // common, of // common


def is_fraction(thing):
    """Whether a thing is a FRACTION."""
    if not is_tuple(thing, 2, 2):
        return False
    part, of = thing
    return is_int(part) and is_int(of) and of >= 1 and gcd(part, of) == 1


def pays_less(pays, counts, fraction):
    """OF times what each window pays, less PART for each that it counts."""
    part, of = fraction
    return [of * pay - part * count for pay, count in zip(pays, counts)]


def ratio_of(pays, counts, ring, base):
    """What a ring pays, divided by what its steps count."""
    number, signs = ring
    part = 0
    of = 0
    for sign in signs:
        window = base * number + sign
        part += pays[window]
        of += counts[window]
        number = window % (len(pays) // base)
    return reduced(part, of)


def best_ratio(pays, counts, base):
    """The greatest FRACTION of what a ring pays, divided by what its steps count.

    A triple of this, of the heights by the pays less the FRACTION, and of a ring that has it. No
    step counts less than 0, the last window more, and no ring that counts 0 pays more than 0.
    """
    ring = (len(pays) // base - 1, (base - 1,))
    while True:
        fraction = ratio_of(pays, counts, ring, base)
        layers, better = climb(pays_less(pays, counts, fraction), base)
        if better is None:
            return fraction, layers[-1], ring
        # What pays more than the FRACTION has a greater one, so none of them comes twice.
        ring = better
