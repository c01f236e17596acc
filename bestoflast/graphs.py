"""PLACES and COUPLES by their numbers, and what a further sign pays behind each of them.

A sign is a bit of a PLACE, or a pair of bits of a COUPLE; the base is how many signs there are. A
window is a PLACE or a COUPLE with a further sign. Each of them has a number, its signs being the
figures of this in the base, the first one the greatest. So a window begins with the PLACE whose
number is its own one divided by the base, and ends with that whose number is what is left of its
own one divided by how many PLACES there are. A list of pays tells for each window what its last
sign pays.
"""

from bestoflast.bills import width_of
from bestoflast.rules import indexes_by_ones

BITS = (0, 1)
PAIRS = ((0, 0), (0, 1), (1, 1))
OF_BITS = 2
OF_PAIRS = 3


def many_of(base, wide):
    """How many tuples of so many signs there are."""
    many = 1
    for _ in range(wide):
        many = base * many
    return many


def signs_of(number, signs, wide):
    """The tuple of so many of the signs that has this number."""
    told = []
    for _ in range(wide):
        number, figure = divmod(number, len(signs))
        told.append(signs[figure])
    return tuple(told[::-1])


def number_of(bits):
    """The number of a tuple of bits."""
    number = 0
    for bit in bits:
        number = OF_BITS * number + bit
    return number


def ones_of(wide):
    """For each tuple of so many bits, ascending, how many ones are in it."""
    ones = [0]
    for _ in range(wide):
        ones = ones + [many + 1 for many in ones]
    return ones


def term_pays(term, wide):
    """What a TERM pays for each window of a PLACE of so many bits and a further one."""
    rule, ahead, behind = term
    told = indexes_by_ones(rule)
    indexes = [told[ones] for ones in ones_of(len(rule))]
    # Of N bits and a further one, the first N are the same in two that stand side by side.
    fronts = [index for index in indexes for _ in BITS]
    pays = [ahead * front + behind * back for front, back in zip(fronts, indexes * OF_BITS)]
    return pays * (1 << (wide - len(rule)))


def bit_pays(bill):
    """What each further bit pays behind each PLACE."""
    own, terms = bill
    wide = width_of(bill)
    pays = [0, own] * (1 << wide)
    for term in terms:
        pays = [paid + more for paid, more in zip(pays, term_pays(term, wide))]
    return pays


def pays_of_firsts(pays):
    """For each window of pairs, what the bits pay that stand first in them."""
    parts = [[pay] for pay in pays]
    while len(parts) > 1:
        # The least figures go first: two bits side by side, of which two pairs begin with 0.
        parts = [zero + zero + one for zero, one in zip(parts[0::OF_BITS], parts[1::OF_BITS])]
    return parts[0]


def pays_of_seconds(pays):
    """For each window of pairs, what the bits pay that stand second in them: the worse ROW's."""
    parts = [[pay] for pay in pays]
    while len(parts) > 1:
        parts = [zero + one + one for zero, one in zip(parts[0::OF_BITS], parts[1::OF_BITS])]
    return parts[0]


def pair_pays(pays):
    """What each further pair of bits pays more by the worse ROW, behind each COUPLE."""
    return [more - pay for pay, more in zip(pays_of_firsts(pays), pays_of_seconds(pays))]


def like_couples(wide):
    """The numbers of the COUPLES without (0, 1), ascending."""
    numbers = [0]
    for _ in range(wide):
        numbers = [OF_PAIRS * number + figure for number in numbers for figure in (0, 2)]
    return numbers
