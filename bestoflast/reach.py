"""What can come next: REACH, and the RISE and the FALL of a RULE."""

from bestoflast.errors import BadNumber
from bestoflast.kinds import is_int, is_int_within
from bestoflast.rules import MOST_RESULTS, index_of, indexes_by_ones, is_result, need_row_of, need_rule


def need_rounds(thing):
    """The thing itself, if it can be a number of ROUNDS."""
    if not is_int_within(thing, 0, MOST_RESULTS):
        raise BadNumber(thing)
    return thing


def need_ahead(rule, row, most):
    """Refuses what are no RULE, no ROW of at least N RESULTS, and no MOST for further ones."""
    need_rule(rule)
    need_row_of(row, len(rule))
    if not is_result(most):
        raise BadNumber(most)


def ascending_lots(values, many):
    """All tuples of so many of the values, each one with none that is less behind it."""
    lots = [()]
    for _ in range(many):
        lots = [lot + (value,) for lot in lots for value in values if not lot or lot[-1] <= value]
    return lots


def ends_of(rule, row, most, rounds):
    """Pairs of an INDEX, and of the last further RESULTS by which it comes, at most N of them.

    The least INDEX and the greatest one are among them.
    """
    free = min(rounds, len(rule))
    kept = row[len(row) - len(rule) + free:]
    # Between the RESULTS that are kept, an INDEX goes straight up or down by a further one: so it
    # is least and greatest where each of these is 0, MOST, or the same as one that is kept.
    values = sorted(set([0, most] + [result for result in kept if result < most]))
    return [(index_of(rule, kept + lot), lot) for lot in ascending_lots(values, free)]


def reach_of(rule, row, most, rounds):
    """REACH. Nothing is checked."""
    indexes = [index for index, _ in ends_of(rule, row, most, rounds)]
    return min(indexes), max(indexes)


def reach(rule, row, most, rounds):
    """REACH: a pair of the least and of the greatest INDEX behind so many further RESULTS."""
    need_ahead(rule, row, most)
    return reach_of(rule, row, most, need_rounds(rounds))


def greatest_way(rule, row, most, rounds):
    """So many further RESULTS by which the greatest INDEX comes."""
    need_ahead(rule, row, most)
    _, lot = max(ends_of(rule, row, most, need_rounds(rounds)))
    return (0,) * (rounds - len(lot)) + lot


def soonest(rule, row, most, goal):
    """The fewest ROUNDS behind which the INDEX can be at least so much, or None."""
    need_ahead(rule, row, most)
    if not is_int(goal):
        raise BadNumber(goal)
    # With N ROUNDS or more it is always the same.
    for rounds in range(len(rule) + 1):
        if reach_of(rule, row, most, rounds)[1] >= goal:
            return rounds
    return None


def rises_of(rule, rounds):
    """Pairs of how much the INDEX of bits rises in ROUNDS, and of how many ones there are.

    These are told of three lots of bits: the first ones, which only the INDEX ahead is of, those
    that both are of, and the last ones, which only the INDEX behind is of.
    """
    alone = min(rounds, len(rule))
    told = indexes_by_ones(rule)
    return [
        (told[both + last] - told[first + both], (first, both, last))
        for first in range(alone + 1)
        for both in range(len(rule) - alone + 1)
        for last in range(alone + 1)
    ]


def rise(rule, rounds):
    """The RISE of a RULE in ROUNDS."""
    need_rule(rule)
    return max([much for much, _ in rises_of(rule, need_rounds(rounds))])


def fall(rule, rounds):
    """The FALL of a RULE in ROUNDS."""
    # A ROW told backwards falls by just so much as it rises.
    return rise(rule, rounds)


def first_bits(many, ones):
    """The first one of the tuples of so many bits with so many ones."""
    return (0,) * (many - ones) + (1,) * ones


def rise_row(rule, rounds):
    """The first BIT ROW of N and ROUNDS bits by which the INDEX rises as much as can be."""
    most = rise(rule, rounds)
    alone = min(rounds, len(rule))
    # The fewest ones in the first bits come first, then the fewest in those behind.
    first, both, last = [ones for much, ones in rises_of(rule, rounds) if much == most][0]
    ahead = first_bits(alone, first) + first_bits(len(rule) - alone, both)
    return ahead + (0,) * (rounds - alone) + first_bits(alone, last)
