"""In the long run: the MEAN of a RING, the TOP and the LOW of a BILL, and the paper on the TOP."""

from bestoflast.bills import need_bill, width_of
from bestoflast.errors import BadNumber, BadPaper
from bestoflast.graphs import BITS, OF_BITS, OF_PAIRS, bit_pays, pair_pays, signs_of
from bestoflast.papers import are_bits, are_heights, do_heights_hold, need_fraction, ring_paid
from bestoflast.ratios import best_ratio, pays_less, reduced


def best_mean(pays, base):
    """The greatest MEAN of the rings by these pays, with its heights and its ring."""
    return best_ratio(pays, [1] * len(pays), base)


def mean(bill, place, bits):
    """The MEAN of a RING."""
    wide = width_of(need_bill(bill))
    if not are_bits(place, wide, wide):
        raise BadNumber(place)
    paid = ring_paid(bill, place, bits)
    if paid is None:
        raise BadNumber(bits)
    return reduced(paid, len(bits))


def top(bill):
    """The TOP: the greatest MEAN of all RINGS."""
    fraction, _, _ = best_mean(bit_pays(need_bill(bill)), OF_BITS)
    return fraction


def low(bill):
    """The LOW: the least MEAN of all RINGS."""
    costs = [-pay for pay in bit_pays(need_bill(bill))]
    (part, of), _, _ = best_mean(costs, OF_BITS)
    return -part, of


def top_ring(bill):
    """A RING with the TOP as its MEAN: a pair of a PLACE and a tuple of bits."""
    _, _, place, bits = top_paper(bill)
    return place, bits


def top_paper(bill):
    """The paper on the TOP of a BILL."""
    wide = width_of(need_bill(bill))
    fraction, heights, (number, bits) = best_mean(bit_pays(bill), OF_BITS)
    return fraction, tuple(heights), signs_of(number, BITS, wide), bits


def do_tops_hold(bill, fraction, heights):
    """Whether these are HEIGHTS of a paper on the TOP, with a FRACTION as the MEAN."""
    if not are_heights(heights, OF_BITS, width_of(bill)):
        return False
    pays = bit_pays(bill)
    return do_heights_hold(heights, pays_less(pays, [1] * len(pays), fraction), OF_BITS)


def check_top(bill, paper):
    """The TOP of a BILL, if the paper on it holds."""
    need_bill(bill)
    fraction = need_fraction(paper)
    part, of = fraction
    _, heights, place, bits = paper
    if not do_tops_hold(bill, fraction, heights):
        raise BadPaper("heights")
    paid = ring_paid(bill, place, bits)
    if paid is None or of * paid != part * len(bits):
        raise BadPaper("ring")
    return fraction


def top_gain(bill):
    """The TOP GAIN: the greatest MEAN of what the worse ROW pays more on a ring of COUPLES."""
    fraction, _, _ = best_mean(pair_pays(bit_pays(need_bill(bill))), OF_PAIRS)
    return fraction
