"""What the papers on BILLS are made of, and what holds of their parts.

What can be told from few things is asked first: papers may have many, and most of them do not hold.
"""

from bestoflast.bills import width_of
from bestoflast.errors import BadPaper
from bestoflast.graphs import OF_BITS, PAIRS, bit_pays, many_of, number_of
from bestoflast.kinds import first_outside, is_tuple
from bestoflast.ratios import is_fraction

MOST_BITS = 10000


def need_word(paper, forms):
    """The word of a paper, if it has one of the forms: pairs of a word and how many parts there are."""
    if not isinstance(paper, tuple) or not paper or not isinstance(paper[0], str):
        raise BadPaper("form")
    if (paper[0], len(paper)) not in forms:
        raise BadPaper("form")
    return paper[0]


def need_fraction(paper):
    """The FRACTION of a paper, if it is a quadruple with one first."""
    if not is_tuple(paper, 4, 4) or not is_fraction(paper[0]):
        raise BadPaper("form")
    return paper[0]


def are_bits(thing, least, most):
    """Whether a thing is a tuple of least to most bits."""
    return is_tuple(thing, least, most) and first_outside(thing, 0, 1) is None


def is_pair(thing):
    """Whether a thing is a pair of bits, the second one no less."""
    return are_bits(thing, 2, 2) and thing in PAIRS


def are_pairs(thing, least, most):
    """Whether a thing is a tuple of least to most pairs of bits, the second ones no less."""
    return is_tuple(thing, least, most) and all([is_pair(pair) for pair in thing])


def does_lead_back(place, signs, are_signs):
    """Whether further signs lead from a PLACE or a COUPLE to itself. Only the last ones are looked at.

    It is told by are_signs whether a thing is a tuple of least to most signs.
    """
    wide = len(place)
    last = (place + signs[-wide:])[-wide:]
    return are_signs(last, wide, wide) and last == place


def are_heights(thing, base, wide):
    """Whether a thing is a tuple of integers from 0 on, as many as tuples of so many signs."""
    many = many_of(base, wide)
    if not is_tuple(thing, many, many):
        return False
    for height in thing:
        if not isinstance(height, int) or height is True or height is False or height < 0:
            return False
    return True


def do_heights_hold(heights, pays, base):
    """Whether each height is at least what each further sign pays and the one behind it, together."""
    aheads = [height for height in heights for _ in range(base)]
    for ahead, pay, behind in zip(aheads, pays, heights * base):
        if ahead < pay + behind:
            return False
    return True


def steps_of(pays):
    """For each PLACE what each bit pays there, and the number of the PLACE behind it."""
    many = len(pays) // OF_BITS
    return [
        {0: (pays[window], window % many), 1: (pays[window + 1], (window + 1) % many)}
        for window in range(0, len(pays), OF_BITS)
    ]


def paid_by(pays, number, bits):
    """What further bits pay behind the PLACE of a number, or None if one of them is no bit."""
    steps = steps_of(pays)
    paid = 0
    try:
        # What is no bit is found on the way, as it takes long to go over all of them once more.
        for bit in bits:
            if not isinstance(bit, int) or bit is True or bit is False:
                return None
            pay, number = steps[number][bit]
            paid += pay
    except KeyError:
        return None
    return paid


def ring_paid(bill, place, bits):
    """What the bits of a RING pay, or None if this is none."""
    wide = width_of(bill)
    if not are_bits(place, wide, wide) or not is_tuple(bits, 1, MOST_BITS):
        return None
    if not does_lead_back(place, bits, are_bits):
        return None
    return paid_by(bit_pays(bill), number_of(place), bits)


def paid_more(pays, number, other, bits, worse):
    """What further bits of a worse ROW pay more than those of the other one behind two PLACES.

    None if one of them is no bit, or less than the other one's. There are as many of both.
    """
    steps = steps_of(pays)
    paid = 0
    try:
        for bit, more in zip(bits, worse):
            if not isinstance(bit, int) or bit is True or bit is False:
                return None
            if not isinstance(more, int) or more is True or more is False or more < bit:
                return None
            pay, number = steps[number][bit]
            worse_pay, other = steps[other][more]
            paid += worse_pay - pay
    except KeyError:
        return None
    return paid
