"""Plain searches over bit rows, papers looked at word by word, and bills for the tests of both."""

import random
from fractions import Fraction
from itertools import product

from bestoflast.bills import width
from tests.helper import NO_INTEGERS, NO_TUPLES
from tests.test_bills import pays_by_hand

PAIRS = ((0, 0), (0, 1), (1, 1))
BEST = (0, 1, 1)
BEST_OF_SIX = (0, 0, 0, 1, 1, 1)
LEAST_OF_SIX = (1, 0, 0, 0, 0, 0)

# A term with AHEAD and BEHIND of unlike signs is paid the index behind less the one ahead.
SIX_UP = (0, ((BEST_OF_SIX, -1, 1), (LEAST_OF_SIX, -2, 2)))
SIX = (
    SIX_UP,
    (-1, ((BEST_OF_SIX, -1, 1), (LEAST_OF_SIX, -2, 2))),
    (1, ((BEST_OF_SIX, -1, 1), (LEAST_OF_SIX, -2, 2))),
    (0, (((1, -1, 2, -2, 3, -3), -2, 2), ((-1, 0, 0, 4, 0, 1), 1, -1))),
    (-3, (((1, -1, 2, -2, 3, -3), -2, 2), ((-1, 0, 0, 4, 0, 1), 1, -1))),
    (-50, (((20,) * 6, -50, 50), ((-20,) * 6, 50, -50))),
    (-2, (((0, 0, 1, 0, 0, 0), 1, 0), ((0, 0, 0, 1, 0, 0), 0, 1))),
    (-2, (((0, 0, 1, 0, 0, 0), -1, 1), ((0, 0, 0, -1, 0, 0), 1, 0))),
    (50, (((20,) * 6, 50, 50), ((-20,) * 6, -50, -50))),
)
SMALL = (
    (0, ()), (1, ()), (-1, ()), (50, ()), (-50, ()),
    (0, (((1,), -1, 1),)), (0, (((1,), 1, -1),)), (0, (((1,), 1, 0),)), (0, (((1,), 0, 1),)),
    (0, (((1,), -1, 0),)), (-1, (((1,), 1, 0),)), (-1, (((1,), 2, 0),)), (-2, (((1,), 1, 0),)),
    (0, (((1,), -3, 2),)), (0, (((1,), 2, -1),)), (0, (((1,), -3, 2), ((0, 0), 0, 0))),
    (0, (((-1, 1), 0, -1),)), (0, (((-1, 1), 0, 1),)), (-1, (((-1, 1), 0, 1),)),
    (0, ((BEST, -1, 1),)), (0, ((BEST, 1, -1),)), (-1, ((BEST, -1, 1),)), (2, ((BEST, -1, 0),)),
    (-3, ((BEST, 1, 1), ((1,), 0, 1))), (-1, (((1, -1, 1), -4, 4), ((3, -2), 1, -1))),
    (0, (((1,), -5, 5), ((0, 0, 0, 1), 5, -5))), (-7, (((0, 0, 0, 7), 0, 1), ((1, 0), -2, 2))),
    (1, (((0, 1, 0, 0, 0), 0, -1), ((0, 0, 1), -2, 2))),
)
# Some in the middle: bits count most where they stand in lots.
MIDDLE = (
    (0, (((0, 1, 0), 0, 1),)), (-1, (((0, 1, 0), 0, 1),)), (-2, (((0, 1, 0), 1, 0),)),
    (-3, (((0, 3, -1), 1, -2),)), (1, (((0, 0, 1, 0), -1, 3), ((0, 1, 0), -1, -2))),
    (-1, (((0, 0, 1, 0, 0, 0), 0, 1),)), (-2, (((0, 0, 3, -1, 0, 0), 1, 0), ((0, 2, -5), 1, 1))),
)

# What a tuple is passed for, bits are passed for, and papers are.
NO_BITS = (*NO_INTEGERS, -1, 2, 10 ** 59, -10 ** 59)
NO_HEIGHTS = (*NO_INTEGERS, -1, -2, -10 ** 59)
NO_FORMS = (
    *NO_TUPLES, (), ("bound",), ("ring",), ("bound", (0, 0)), ("ring", (0,)),
    *[(thing, (0, 0), (0,)) for thing in (*NO_INTEGERS, 0, 1, ("bound",), ("ring",))],
    *[(thing, (0, 0), (0,), (0,)) for thing in (*NO_INTEGERS, 0, 1)],
    ("Bound", (0, 0), (0,)), ("bound ", (0, 0), (0,)), ("rings", (0,), (1,)), ("boundring", (), ()),
    ("ring", (0,), (1,), (1,)), ("bound", (0, 0), (0,), (0,), (0,)), ["bound", (0, 0), (0,)],
    ["bound", (0, 0), (0,), (0,)], ["ring", (0,), (1,)], ("bound", (0, 0), (0,), None, None),
)


def bills_by_chance(many, wides, seed=1):
    """Bills by chance, the same ones each time, with some that pay little on the whole."""
    chance = random.Random(seed)
    found = []
    for number in range(many):
        terms = []
        for _ in range(chance.randint(0, 2)):
            rule = tuple(chance.randint(-3, 3) for _ in range(chance.choice(wides)))
            ahead = chance.randint(-3, 3)
            terms.append((rule, ahead, -ahead if number % 2 else chance.randint(-3, 3)))
        found.append((chance.randint(-6, 1 - number % 2), tuple(terms)))
    return found


def paid(bill):
    """What the last one of each row of WIDTH bits and a further one pays."""
    rows = product((0, 1), repeat=width(bill) + 1)
    return {row: pays_by_hand(bill, row)[0] for row in rows}


def rows_worth(bill, most):
    """For each length up to most: all pairs of a bit row and its worth, the rows ascending."""
    wide, table = width(bill), paid(bill)
    found = [(row, 0) for row in product((0, 1), repeat=wide)]
    yield found
    for length in range(wide, most):
        found = [
            (row + (bit,), worth + table[row[length - wide:] + (bit,)])
            for row, worth in found for bit in (0, 1)
        ]
        yield found


def search_row(bill, most):
    """The first one of the shortest bit rows of the greatest worth, of up to so many bits."""
    best = (0,) * width(bill)
    top = 0
    for found in rows_worth(bill, most):
        for row, worth in found:
            if worth > top:
                best, top = row, worth
    return best, top


def pairs_gain(bill, kind, most):
    """For each length up to most: all triples of a bit row, a worse one of a kind, and their gain."""
    wide, table = width(bill), paid(bill)
    # Two rows of one window each, and what the worse one pays more.
    more = {(one, two): table[two] - table[one] for one in table for two in table}
    found = [(row, row, 0) for row in product((0, 1), repeat=wide)]
    yield found
    for length in range(wide, most):
        found = [
            (row + (one,), worse + (two,),
             gain + more[row[length - wide:] + (one,), worse[length - wide:] + (two,)])
            for row, worse, gain in found for one, two in PAIRS
            if kind == "any" or one == two or row == worse
        ]
        yield found


def search_gain(bill, kind, most):
    """The greatest gain of a kind by rows of up to so many bits, and the fewest bits for it."""
    fewest, top = width(bill), 0
    for found in pairs_gain(bill, kind, most):
        best = max([gain for _, _, gain in found])
        if best > top:
            fewest, top = len(found[0][0]), best
    return fewest, top


def by_words(bill, signs, pay, heights):
    """Whether there is a height for each tuple of signs, and all hold; pay tells what signs pay."""
    places = list(product(signs, repeat=width(bill)))
    if len(heights) != len(places) or min(heights) < 0:
        return False
    of = dict(zip(places, heights))
    return all(of[row] >= pay(row + (sign,)) + of[row[1:] + (sign,)] for row in places for sign in signs)


def bound_by_words(bill, heights, row):
    """Whether heights and a row are as told in the paper "bound" on whether a bill is bounded."""
    table = paid(bill)
    if not by_words(bill, (0, 1), lambda bits: table[bits], heights):
        return False
    wide = width(bill)
    if not wide <= len(row) <= 10000:
        return False
    return sum(table[row[at - wide:at + 1]] for at in range(wide, len(row))) == max(heights)


def ring_by_words(bill, place, bits):
    """Whether a place and a ring are as told in the paper "ring" on whether a bill is bounded."""
    wide, table, row = width(bill), paid(bill), place + bits
    if len(place) != wide or not 1 <= len(bits) <= 10000 or row[len(row) - wide:] != place:
        return False
    return sum(table[row[at - wide:at + 1]] for at in range(wide, len(row))) > 0


def more_by_words(bill):
    """What further pairs behind a couple pay more by the worse one, all of them in one tuple."""
    table = paid(bill)
    return lambda pairs: table[tuple(two for _, two in pairs)] - table[tuple(one for one, _ in pairs)]


def worse_bound_by_words(bill, heights, row, worse):
    """Whether heights and rows are as told in the paper "bound" on the greatest gain."""
    more, wide = more_by_words(bill), width(bill)
    if not by_words(bill, PAIRS, more, heights):
        return False
    if not wide <= len(row) <= 10000 or len(worse) != len(row) or row[:wide] != worse[:wide]:
        return False
    pairs = tuple(zip(row, worse))
    if (1, 0) in pairs:
        return False
    couples = product(PAIRS, repeat=wide)
    top = max(height for couple, height in zip(couples, heights) if (0, 1) not in couple)
    return sum(more(pairs[at - wide:at + 1]) for at in range(wide, len(pairs))) == top


def worse_ring_by_words(bill, couple, pairs):
    """Whether a couple and a ring are as told in the paper "ring" on the greatest gain."""
    more, wide, row = more_by_words(bill), width(bill), couple + pairs
    if len(couple) != wide or not 1 <= len(pairs) <= 10000 or row[len(row) - wide:] != couple:
        return False
    return (1, 0) not in row and sum(more(row[at - wide:at + 1]) for at in range(wide, len(row))) > 0


def own_of(bill, own):
    """The bill with another own."""
    return (own, bill[1])


def place_steps(bill):
    """For each place: what each bit pays there, and the place behind it."""
    table = paid(bill)
    return {
        row: {bit: (table[row + (bit,)], row[1:] + (bit,)) for bit in (0, 1)}
        for row in product((0, 1), repeat=width(bill))
    }


def couple_steps(bill):
    """For each couple: what each pair pays more by the worse one, and the couple behind it."""
    more = more_by_words(bill)
    return {
        row: {pair: (more(row + (pair,)), row[1:] + (pair,)) for pair in PAIRS}
        for row in product(PAIRS, repeat=width(bill))
    }


def rings_of(steps):
    """All rings without a place twice: of each its least place, the signs, and what each pays."""
    for start in sorted(steps):
        ways = [(start, (), (), {start})]
        while ways:
            place, signs, pays, seen = ways.pop()
            for sign, (pay, behind) in steps[place].items():
                if behind == start:
                    yield start, signs + (sign,), pays + (pay,)
                elif behind > start and behind not in seen:
                    ways.append((behind, signs + (sign,), pays + (pay,), seen | {behind}))


def means_of(steps):
    """The means of all rings without a place twice."""
    return [Fraction(sum(pays), len(pays)) for _, _, pays in rings_of(steps)]


def top_of(steps):
    """The greatest mean of all rings, in Karp's way: by walks of just so many steps."""
    many = len(steps)
    numbers = {place: number for number, place in enumerate(steps)}
    table = [[(pay, numbers[to]) for pay, to in ways.values()] for ways in steps.values()]
    walks = [[0] * many]
    for _ in range(many):
        walks.append([max(pay + walks[-1][to] for pay, to in ways) for ways in table])
    return max(
        min(Fraction(walks[many][at] - walks[left][at], many - left) for left in range(many))
        for at in range(many)
    )


def told(fraction):
    """The pair of integers of a Fraction."""
    return (fraction.numerator, fraction.denominator)


def ring_pays(bill, place, bits):
    """What the bits of a ring pay, one by one, or None if it is none."""
    table, wide, row = paid(bill), width(bill), place + bits
    if len(place) != wide or not 1 <= len(bits) <= 10000 or row[len(row) - wide:] != place:
        return None
    return [table[row[at - wide:at + 1]] for at in range(wide, len(row))]


def top_by_words(bill, mean, heights, place, bits):
    """The part of a paper on the top that is not as told, or None. The mean is a FRACTION."""
    table = paid(bill)
    if not by_words(bill, (0, 1), lambda row: mean[1] * table[row] - mean[0], heights):
        return "heights"
    pays = ring_pays(bill, place, bits)
    if pays is None or Fraction(sum(pays), len(pays)) != Fraction(*mean):
        return "ring"
    return None


def edge_by_words(bill, edge, heights, place, bits):
    """The part of a paper on the edge that is not as told, or None. The edge is a FRACTION."""
    bill = own_of(bill, 0)
    table = paid(bill)
    if not by_words(bill, (0, 1), lambda row: edge[1] * table[row] + edge[0] * row[-1], heights):
        return "heights"
    pays = ring_pays(bill, place, bits)
    if pays is None or 1 not in bits or edge[1] * sum(pays) + edge[0] * sum(bits) != 0:
        return "ring"
    return None
