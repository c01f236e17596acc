"""Whether a BILL is bounded, its GREATEST, and the paper on it."""

from bestoflast.bills import need_bill, width_of
from bestoflast.errors import BadPaper
from bestoflast.graphs import bit_graph, places_of
from bestoflast.papers import MOST_BITS, are_bits, are_heights, does_ring_pay, need_word, row_pays
from bestoflast.walks import best_walk, climb, greatest_of

FORMS = (("bound", 3), ("ring", 3))


def is_bounded(bill):
    """Whether there is a number that no BIT ROW has a WORTH above."""
    _, ring = climb(bit_graph(need_bill(bill)))
    return ring is None


def greatest(bill):
    """The GREATEST of a BILL, or None if it is not bounded."""
    layers, ring = climb(bit_graph(need_bill(bill)))
    if ring is not None:
        return None
    return max(layers[-1])


def best_row_of(bill, graph, layers):
    """The first one of the shortest BIT ROWS whose WORTH is the GREATEST."""
    start, bits = best_walk(graph, layers, list(range(len(graph))))
    return places_of(bill)[start] + bits


def best_row(bill):
    """The first one of the shortest BIT ROWS whose WORTH is the GREATEST, or None."""
    graph = bit_graph(need_bill(bill))
    layers, ring = climb(graph)
    if ring is not None:
        return None
    return best_row_of(bill, graph, layers)


def bound_paper(bill):
    """The paper on whether a BILL is bounded."""
    graph = bit_graph(need_bill(bill))
    layers, ring = climb(graph)
    if ring is None:
        return ("bound", tuple(layers[-1]), best_row_of(bill, graph, layers))
    start, bits = ring
    return ("ring", places_of(bill)[start], bits)


def does_bound_hold(bill, heights, row):
    """Whether these are HEIGHTS and a ROW of a paper "bound"."""
    wide = width_of(bill)
    if not are_bits(row, wide, MOST_BITS):
        return False
    graph = bit_graph(bill)
    return are_heights(heights, graph) and row_pays(graph, row, wide) == max(heights)


def does_ring_hold(bill, place, bits):
    """Whether these are a PLACE and a RING of a paper "ring"."""
    wide = width_of(bill)
    if not are_bits(place, wide, wide) or not are_bits(bits, 1, MOST_BITS):
        return False
    return does_ring_pay(bit_graph(bill), place, bits)


def check_bound(bill, paper):
    """The word of a paper on whether a BILL is bounded, if the paper holds."""
    need_bill(bill)
    word = need_word(paper, FORMS)
    if word == "bound":
        holds = does_bound_hold(bill, paper[1], paper[2])
    else:
        holds = does_ring_hold(bill, paper[1], paper[2])
    if not holds:
        raise BadPaper(word)
    return word
