"""Whether worse ROWS pay: the GAIN of two ROWS, the GREATEST GAIN of a BILL, and the paper on it."""

from bestoflast.apart import best_single
from bestoflast.bills import need_bill, pays_of, width_of
from bestoflast.errors import BadKind, BadPaper, BadRow
from bestoflast.graphs import (
    OF_PAIRS, PAIRS, bit_pays, like_couples, number_of, pair_pays, signs_of,
)
from bestoflast.kinds import is_tuple
from bestoflast.papers import (
    MOST_BITS, are_bits, are_heights, are_pairs, do_heights_hold, does_lead_back, need_word,
    paid_more,
)
from bestoflast.rules import need_row, need_row_of
from bestoflast.walks import best_walk, climb, greatest_of

FORMS = (("bound", 4), ("ring", 3))


def need_kind(thing):
    """The thing itself, if it is a kind."""
    if not isinstance(thing, str) or thing not in ("any", "once"):
        raise BadKind(thing)
    return thing


def need_worse(thing, row, wide):
    """The thing itself, if it is a ROW that is worse than a ROW by a BILL of this WIDTH."""
    need_row(thing)
    if len(thing) != len(row):
        raise BadRow(None)
    for number, (result, worse) in enumerate(zip(row, thing)):
        if worse < result or (number < wide and worse > result):
            raise BadRow(number)
    return thing


def gain(bill, row, other):
    """The GAIN of two ROWS, the other one being the worse one."""
    wide = width_of(need_bill(bill))
    need_row_of(row, wide)
    need_worse(other, row, wide)
    return sum(pays_of(bill, other)) - sum(pays_of(bill, row))


def greatest_gain(bill, kind):
    """The GREATEST GAIN of a kind, or None if there is none."""
    wide = width_of(need_bill(bill))
    if need_kind(kind) == "once":
        return max(0, best_single(bit_pays(bill), wide)[0])
    layers, ring = climb(pair_pays(bit_pays(bill)), OF_PAIRS)
    if ring is not None:
        return None
    return greatest_of(layers[-1], like_couples(wide))


def rows_of(pairs):
    """Two ROWS of pairs, the worse one behind."""
    return tuple([pair[0] for pair in pairs]), tuple([pair[1] for pair in pairs])


def rows_of_gain(pays, layers, wide):
    """A pair of BIT ROWS, the worse one behind, with the GREATEST GAIN and as few bits as can be."""
    start, figures = best_walk(pays, layers, like_couples(wide), OF_PAIRS)
    return rows_of(signs_of(start, PAIRS, wide) + tuple([PAIRS[figure] for figure in figures]))


def rows_of_single(bill):
    """A pair of BIT ROWS, the second one once worse, with the GREATEST GAIN, as short as can be."""
    wide = width_of(bill)
    paid, row, worse = best_single(bit_pays(bill), wide)
    if paid > 0:
        return row, worse
    return (0,) * wide, (0,) * wide


def gain_rows(bill, kind):
    """A pair of BIT ROWS with the GREATEST GAIN of a kind and as few bits as can be, or None."""
    wide = width_of(need_bill(bill))
    if need_kind(kind) == "once":
        return rows_of_single(bill)
    pays = pair_pays(bit_pays(bill))
    layers, ring = climb(pays, OF_PAIRS)
    if ring is not None:
        return None
    return rows_of_gain(pays, layers, wide)


def does_pay(bill, kind):
    """Whether a worse ROW of a kind can pay."""
    need_bill(bill)
    need_kind(kind)
    # ROWS get worse by one RESULT after another: if none of these pays, no more of them do.
    return greatest_gain(bill, "once") > 0


def worse_paper(bill):
    """The paper on whether there is a GREATEST GAIN of the kind "any"."""
    wide = width_of(need_bill(bill))
    pays = pair_pays(bit_pays(bill))
    layers, ring = climb(pays, OF_PAIRS)
    if ring is None:
        row, worse = rows_of_gain(pays, layers, wide)
        return ("bound", tuple(layers[-1]), row, worse)
    start, figures = ring
    return ("ring", signs_of(start, PAIRS, wide), tuple([PAIRS[figure] for figure in figures]))


def does_bound_hold(bill, heights, row, worse):
    """Whether these are HEIGHTS, a ROW and a worse one of a paper "bound"."""
    wide = width_of(bill)
    if not is_tuple(row, wide, MOST_BITS) or not is_tuple(worse, len(row), len(row)):
        return False
    place = row[:wide]
    if not are_bits(place, wide, wide) or not are_bits(worse[:wide], wide, wide):
        return False
    if worse[:wide] != place or not are_heights(heights, OF_PAIRS, wide):
        return False
    pays = bit_pays(bill)
    if not do_heights_hold(heights, pair_pays(pays), OF_PAIRS):
        return False
    number = number_of(place)
    paid = paid_more(pays, number, number, row[wide:], worse[wide:])
    return paid == greatest_of(heights, like_couples(wide))


def does_ring_hold(bill, couple, pairs):
    """Whether these are a COUPLE and a RING of a paper "ring"."""
    wide = width_of(bill)
    if not are_pairs(couple, wide, wide) or not is_tuple(pairs, 1, MOST_BITS):
        return False
    if not does_lead_back(couple, pairs, are_pairs):
        return False
    for pair in pairs:
        if not isinstance(pair, tuple) or len(pair) != 2:
            return False
    place, other = rows_of(couple)
    bits, worse = rows_of(pairs)
    paid = paid_more(bit_pays(bill), number_of(place), number_of(other), bits, worse)
    return paid is not None and paid > 0


def check_worse(bill, paper):
    """The word of a paper on whether there is a GREATEST GAIN of the kind "any", if it holds."""
    need_bill(bill)
    word = need_word(paper, FORMS)
    if word == "bound":
        holds = does_bound_hold(bill, paper[1], paper[2], paper[3])
    else:
        holds = does_ring_hold(bill, paper[1], paper[2])
    if not holds:
        raise BadPaper(word)
    return word
