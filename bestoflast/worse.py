"""Whether worse ROWS pay: the GAIN of two ROWS, the GREATEST GAIN of a BILL, and the paper on it."""

from bestoflast.bills import need_bill, pays_of, width_of
from bestoflast.errors import BadKind, BadPaper, BadRow
from bestoflast.graphs import UNLIKE, couples_of, firsts, once_graph, pair_graph, seconds
from bestoflast.papers import (
    MOST_BITS, are_bits, are_heights, are_pairs, does_ring_pay, need_word, row_pays,
)
from bestoflast.rules import need_row, need_row_of
from bestoflast.walks import best_walk, climb, greatest_of

FORMS = (("bound", 4), ("ring", 3))


def need_kind(thing):
    """The thing itself, if it is a kind."""
    if not isinstance(thing, str) or thing not in ("any", "once"):
        raise BadKind(thing)
    return thing


def need_worse(thing, row, wide):
    """The thing itself, if it is a ROW that is worse than a ROW by a BILL of this WIDTH."""
    need_row(thing)
    if len(thing) != len(row):
        raise BadRow(None)
    for number, (result, worse) in enumerate(zip(row, thing)):
        if worse < result or (number < wide and worse > result):
            raise BadRow(number)
    return thing


def gain(bill, row, other):
    """The GAIN of two ROWS, the other one being the worse one."""
    wide = width_of(need_bill(bill))
    need_row_of(row, wide)
    need_worse(other, row, wide)
    return sum(pays_of(bill, other)) - sum(pays_of(bill, row))


def starts_of(bill):
    """The numbers of the COUPLES without (0, 1): both ROWS are the same in their first RESULTS."""
    return [number for number, couple in enumerate(couples_of(bill)) if UNLIKE not in couple]


def graph_of_kind(bill, kind):
    """The graph of the COUPLES for worse ROWS of a kind."""
    if kind == "once":
        return once_graph(bill)
    return pair_graph(bill)


def greatest_gain(bill, kind):
    """The GREATEST GAIN of a kind, or None if there is none."""
    need_bill(bill)
    layers, ring = climb(graph_of_kind(bill, need_kind(kind)))
    if ring is not None:
        return None
    return greatest_of(layers[-1], starts_of(bill))


def rows_of_gain(bill, graph, layers):
    """A pair of BIT ROWS, the worse one behind, with the GREATEST GAIN and as few bits as can be."""
    start, further = best_walk(graph, layers, starts_of(bill))
    pairs = couples_of(bill)[start] + further
    return (firsts(pairs), seconds(pairs))


def gain_rows(bill, kind):
    """A pair of BIT ROWS with the GREATEST GAIN of a kind and as few bits as can be, or None."""
    need_bill(bill)
    graph = graph_of_kind(bill, need_kind(kind))
    layers, ring = climb(graph)
    if ring is not None:
        return None
    return rows_of_gain(bill, graph, layers)


def does_pay(bill, kind):
    """Whether a worse ROW of a kind can pay."""
    need_bill(bill)
    need_kind(kind)
    # ROWS get worse by one RESULT after another: if none of these pays, no more of them do.
    return greatest_gain(bill, "once") > 0


def worse_paper(bill):
    """The paper on whether there is a GREATEST GAIN of the kind "any"."""
    graph = pair_graph(need_bill(bill))
    layers, ring = climb(graph)
    if ring is None:
        row, worse = rows_of_gain(bill, graph, layers)
        return ("bound", tuple(layers[-1]), row, worse)
    start, pairs = ring
    return ("ring", couples_of(bill)[start], pairs)


def do_rows_hold(row, worse, wide):
    """Whether these are two BIT ROWS of a paper, the second one worse by a BILL of this WIDTH."""
    if not are_bits(row, wide, MOST_BITS) or not are_bits(worse, len(row), len(row)):
        return False
    return row[:wide] == worse[:wide] and all([one <= two for one, two in zip(row, worse)])


def does_bound_hold(bill, heights, row, worse):
    """Whether these are HEIGHTS, a ROW and a worse one of a paper "bound"."""
    wide = width_of(bill)
    if not do_rows_hold(row, worse, wide):
        return False
    graph = pair_graph(bill)
    if not are_heights(heights, graph):
        return False
    return row_pays(graph, list(zip(row, worse)), wide) == greatest_of(heights, starts_of(bill))


def does_ring_hold(bill, couple, pairs):
    """Whether these are a COUPLE and a RING of a paper "ring"."""
    wide = width_of(bill)
    if not are_pairs(couple, wide, wide) or not are_pairs(pairs, 1, MOST_BITS):
        return False
    return does_ring_pay(pair_graph(bill), couple, pairs)


def check_worse(bill, paper):
    """The word of a paper on whether there is a GREATEST GAIN of the kind "any", if it holds."""
    need_bill(bill)
    word = need_word(paper, FORMS)
    if word == "bound":
        holds = does_bound_hold(bill, paper[1], paper[2], paper[3])
    else:
        holds = does_ring_hold(bill, paper[1], paper[2])
    if not holds:
        raise BadPaper(word)
    return word
