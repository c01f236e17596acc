"""Whether a BILL is bounded, its GREATEST, and the paper on it."""

from bestoflast.bills import need_bill, width_of
from bestoflast.errors import BadPaper
from bestoflast.graphs import BITS, OF_BITS, bit_pays, number_of, signs_of
from bestoflast.kinds import is_tuple
from bestoflast.papers import (
    MOST_BITS, are_bits, are_heights, do_heights_hold, need_word, paid_by, ring_paid,
)
from bestoflast.walks import best_walk, climb

FORMS = (("bound", 3), ("ring", 3))


def is_bounded(bill):
    """Whether there is a number that no BIT ROW has a WORTH above."""
    _, ring = climb(bit_pays(need_bill(bill)), OF_BITS)
    return ring is None


def greatest(bill):
    """The GREATEST of a BILL, or None if it is not bounded."""
    layers, ring = climb(bit_pays(need_bill(bill)), OF_BITS)
    if ring is not None:
        return None
    return max(layers[-1])


def best_row_of(bill, pays, layers):
    """The first one of the shortest BIT ROWS whose WORTH is the GREATEST."""
    start, bits = best_walk(pays, layers, list(range(len(layers[0]))), OF_BITS)
    return signs_of(start, BITS, width_of(bill)) + bits


def best_row(bill):
    """The first one of the shortest BIT ROWS whose WORTH is the GREATEST, or None."""
    pays = bit_pays(need_bill(bill))
    layers, ring = climb(pays, OF_BITS)
    if ring is not None:
        return None
    return best_row_of(bill, pays, layers)


def bound_paper(bill):
    """The paper on whether a BILL is bounded."""
    pays = bit_pays(need_bill(bill))
    layers, ring = climb(pays, OF_BITS)
    if ring is None:
        return ("bound", tuple(layers[-1]), best_row_of(bill, pays, layers))
    start, bits = ring
    return ("ring", signs_of(start, BITS, width_of(bill)), bits)


def does_bound_hold(bill, heights, row):
    """Whether these are HEIGHTS and a ROW of a paper "bound"."""
    wide = width_of(bill)
    if not is_tuple(row, wide, MOST_BITS) or not are_bits(row[:wide], wide, wide):
        return False
    if not are_heights(heights, OF_BITS, wide):
        return False
    pays = bit_pays(bill)
    if not do_heights_hold(heights, pays, OF_BITS):
        return False
    return paid_by(pays, number_of(row[:wide]), row[wide:]) == max(heights)


def does_ring_hold(bill, place, bits):
    """Whether these are a PLACE and a RING of a paper "ring"."""
    paid = ring_paid(bill, place, bits)
    return paid is not None and paid > 0


def check_bound(bill, paper):
    """The word of a paper on whether a BILL is bounded, if the paper holds."""
    need_bill(bill)
    word = need_word(paper, FORMS)
    if word == "bound":
        holds = does_bound_hold(bill, paper[1], paper[2])
    else:
        holds = does_ring_hold(bill, paper[1], paper[2])
    if not holds:
        raise BadPaper(word)
    return word
