"""How much a result has to count: the EDGE and the FAIR of a BILL, and the paper on the EDGE."""

from bestoflast.apart import best_single
from bestoflast.bills import need_bill, width_of
from bestoflast.errors import BadPaper
from bestoflast.graphs import BITS, OF_BITS, bit_pays, signs_of
from bestoflast.papers import are_heights, do_heights_hold, need_fraction, ring_paid
from bestoflast.ratios import best_ratio, pays_less


def without_own(bill):
    """The BILL with the same TERMS, and 0 for OWN."""
    return (0, bill[1])


def ones_of_windows(pays):
    """For each window, whether its last bit is 1."""
    return [0, 1] * (len(pays) // OF_BITS)


def edge(bill):
    """The EDGE: the greatest OWN with which no RING pays more than 0."""
    return edge_paper(bill)[0]


def edge_paper(bill):
    """The paper on the EDGE of a BILL."""
    wide = width_of(need_bill(bill))
    pays = bit_pays(without_own(bill))
    # What the TERMS pay at most for each 1 of a RING is what OWN has to take away.
    (part, of), heights, (number, bits) = best_ratio(pays, ones_of_windows(pays), OF_BITS)
    return (-part, of), tuple(heights), signs_of(number, BITS, wide), bits


def do_edges_hold(bill, fraction, heights):
    """Whether these are HEIGHTS of a paper on the EDGE, with a FRACTION as the EDGE."""
    if not are_heights(heights, OF_BITS, width_of(bill)):
        return False
    part, of = fraction
    pays = bit_pays(without_own(bill))
    return do_heights_hold(heights, pays_less(pays, ones_of_windows(pays), (-part, of)), OF_BITS)


def check_edge(bill, paper):
    """The EDGE of a BILL, if the paper on it holds."""
    need_bill(bill)
    fraction = need_fraction(paper)
    part, of = fraction
    _, heights, place, bits = paper
    if not do_edges_hold(bill, fraction, heights):
        raise BadPaper("heights")
    paid = ring_paid(without_own(bill), place, bits)
    if paid is None or 1 not in bits or of * paid + part * sum(bits) != 0:
        raise BadPaper("ring")
    return fraction


def best_of_terms(bill):
    """What one bit more pays at most by the TERMS, and two ROWS of this, the worse one behind."""
    wide = width_of(need_bill(bill))
    return best_single(bit_pays(without_own(bill)), wide)


def fair(bill):
    """The FAIR: the greatest OWN with which no worse ROW of bits pays more."""
    paid, _, _ = best_of_terms(bill)
    return -paid


def fair_rows(bill):
    """Two BIT ROWS, the second one worse by one bit, by which the TERMS pay more: 0 less the FAIR."""
    _, row, worse = best_of_terms(bill)
    return row, worse
