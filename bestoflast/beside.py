"""Indexes beside one another: whether one is never above another, and what FRACTIONS suit them."""

from bestoflast.errors import BadNumber
from bestoflast.graphs import BITS, many_of, ones_of, signs_of
from bestoflast.kinds import is_int_within
from bestoflast.ratios import reduced
from bestoflast.rules import indexes_by_ones, need_rule

MOST_ROUNDS = 6


def need_pair(rule, other, rounds):
    """Refuses what are no two RULES and ROUNDS."""
    need_rule(rule)
    need_rule(other)
    if not is_int_within(rounds, 0, MOST_ROUNDS):
        raise BadNumber(rounds)


def indexes_beside(rule, other, rounds):
    """For all tuples of so many bits, ascending: a pair of both INDEXES.

    So many are as many as the greater N, and ROUNDS further ones.
    """
    told, other_told = indexes_by_ones(rule), indexes_by_ones(other)
    ones = ones_of(max(len(rule), len(other)))
    many, other_many = many_of(2, len(rule)), many_of(2, len(other))
    ahead = many_of(2, rounds)
    return [
        (told[ones[number // ahead % many]], other_told[ones[number % other_many]])
        for number in range(len(ones) * ahead)
    ]


def above_row(rule, other, rounds=0):
    """The first tuple of bits by which the first INDEX is greater, or None."""
    need_pair(rule, other, rounds)
    wide = max(len(rule), len(other)) + rounds
    for number, (index, other_index) in enumerate(indexes_beside(rule, other, rounds)):
        if index > other_index:
            return signs_of(number, BITS, wide)
    return None


def never_above(rule, other, rounds=0):
    """Whether the first INDEX is never greater."""
    return above_row(rule, other, rounds) is None


def is_less(fraction, other):
    """Whether a FRACTION is less than another one."""
    return fraction[0] * other[1] < other[0] * fraction[1]


def suits(rule, other, rounds=0):
    """The least and the greatest FRACTION that suits, each of them or None; None if none suits."""
    need_pair(rule, other, rounds)
    least, greatest = None, None
    for index, other_index in sorted(set(indexes_beside(rule, other, rounds))):
        if other_index == 0 and index < 0:
            return None
        if other_index > 0:
            bound = reduced(index, other_index)
            if greatest is None or is_less(bound, greatest):
                greatest = bound
        if other_index < 0:
            bound = reduced(-index, -other_index)
            if least is None or is_less(least, bound):
                least = bound
    if least is not None and greatest is not None and is_less(greatest, least):
        return None
    return least, greatest
