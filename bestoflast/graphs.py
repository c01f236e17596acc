"""PLACES and COUPLES, and what a further bit or pair of bits pays behind each of them.

Both are tuples of WIDTH signs, a sign being a bit or a pair of bits, and have numbers, ascending.
A graph is a list: for each number, the steps that there are from there, a dict that tells of each
further sign what it pays, and the number of what is behind it.
"""

from bestoflast.bills import last_pay, width_of

BITS = (0, 1)
UNLIKE = (0, 1)
PAIRS = ((0, 0), UNLIKE, (1, 1))


def tuples_of(signs, many):
    """All tuples of so many of the signs, ascending as the signs are."""
    tuples = [()]
    for _ in range(many):
        tuples = [front + (sign,) for front in tuples for sign in signs]
    return tuples


def graph_of(signs, wide, pay):
    """The graph over all tuples of so many signs.

    Of each of them and a further sign, all in one tuple, pay tells what is paid.
    """
    windows = tuples_of(signs, wide + 1)
    many = len(windows) // len(signs)
    graph = [{} for _ in range(many)]
    for number, window in enumerate(windows):
        # The first sign of a window is its greatest figure, the last one its least.
        graph[number // len(signs)][window[-1]] = (pay(window), number % many)
    return graph


def places_of(bill):
    """All PLACES of a BILL."""
    return tuples_of(BITS, width_of(bill))


def couples_of(bill):
    """All COUPLES of a BILL."""
    return tuples_of(PAIRS, width_of(bill))


def firsts(pairs):
    """The first ones of pairs: the bits of the ROW that is not the worse one."""
    return tuple([pair[0] for pair in pairs])


def seconds(pairs):
    """The second ones of pairs: the bits of the worse ROW."""
    return tuple([pair[1] for pair in pairs])


def bit_graph(bill):
    """The graph of the PLACES: what each further bit pays."""
    return graph_of(BITS, width_of(bill), lambda bits: last_pay(bill, bits))


def pair_graph(bill):
    """The graph of the COUPLES: what each further pair of bits pays more by the worse ROW."""
    wide = width_of(bill)
    # A table, as each of these stands in many pairs.
    paid = {bits: last_pay(bill, bits) for bits in tuples_of(BITS, wide + 1)}
    return graph_of(PAIRS, wide, lambda pairs: paid[seconds(pairs)] - paid[firsts(pairs)])


def once_steps(couple, steps, end):
    """The steps from a COUPLE by which there is one pair (0, 1) in all, and by it at once."""
    if UNLIKE not in couple:
        return {UNLIKE: steps[UNLIKE]}
    like = {sign: steps[sign] for sign in PAIRS if sign != UNLIKE}
    if couple[0] == UNLIKE:
        return {sign: (pay, end) for sign, (pay, _) in like.items()}
    return like


def once_graph(bill):
    """The graph of the COUPLES for once worse ROWS, with an end behind them, without steps.

    From COUPLES without (0, 1) on, no COUPLE with more than one such pair is come to.
    """
    couples = couples_of(bill)
    # Like pairs ahead of the unlike one pay nothing more, nor do any where it is gone again from
    # the last ones. So it comes at once, and the walk ends where it goes.
    end = len(couples)
    graph = pair_graph(bill)
    return [once_steps(couple, steps, end) for couple, steps in zip(couples, graph)] + [{}]
