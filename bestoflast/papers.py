"""What the papers on BILLS are made of, and what holds of their parts."""

from bestoflast.errors import BadPaper
from bestoflast.graphs import PAIRS
from bestoflast.kinds import first_outside, is_int, is_tuple
from bestoflast.walks import number_of, walked

MOST_BITS = 10000


def need_word(paper, forms):
    """The word of a paper, if it has one of the forms: pairs of a word and how many parts there are."""
    if not isinstance(paper, tuple) or not paper or not isinstance(paper[0], str):
        raise BadPaper("form")
    if (paper[0], len(paper)) not in forms:
        raise BadPaper("form")
    return paper[0]


def are_bits(thing, least, most):
    """Whether a thing is a tuple of least to most bits."""
    return is_tuple(thing, least, most) and first_outside(thing, 0, 1) is None


def is_pair(thing):
    """Whether a thing is a pair of bits, the second one no less."""
    return are_bits(thing, 2, 2) and thing in PAIRS


def are_pairs(thing, least, most):
    """Whether a thing is a tuple of least to most pairs of bits, the second ones no less."""
    return is_tuple(thing, least, most) and all([is_pair(pair) for pair in thing])


def are_heights(thing, graph):
    """Whether a thing is a tuple of heights that hold for all steps of a graph."""
    if not is_tuple(thing, len(graph), len(graph)):
        return False
    if not all([is_int(height) and height >= 0 for height in thing]):
        return False
    for height, steps in zip(thing, graph):
        for pay, behind in steps.values():
            if height < pay + thing[behind]:
                return False
    return True


def does_ring_pay(graph, place, signs):
    """Whether these signs lead from a PLACE or a COUPLE to itself, and pay more than 0."""
    start = number_of(graph, place)
    paid, end = walked(graph, start, signs)
    return end == start and paid > 0


def row_pays(graph, row, wide):
    """What all signs of a row pay together, but the first WIDTH ones."""
    return walked(graph, number_of(graph, row[:wide]), row[wide:])[0]
