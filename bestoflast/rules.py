"""RULES and ROWS, the INDEX by a RULE behind a ROW, and the LAYERS of a ROW."""

from bestoflast.errors import BadNumber, BadRow, BadRule
from bestoflast.kinds import first_outside, is_int, is_int_within, is_tuple

MOST_WEIGHTS = 6
GREATEST_WEIGHT = 20
MOST_RESULTS = 200
GREATEST_RESULT = 1000000


def need_rule(thing):
    """The thing itself, if it is a RULE."""
    if not is_tuple(thing, 1, MOST_WEIGHTS):
        raise BadRule(None)
    number = first_outside(thing, -GREATEST_WEIGHT, GREATEST_WEIGHT)
    if number is not None:
        raise BadRule(number)
    return thing


def is_rule(thing):
    """Whether a thing is a RULE."""
    try:
        need_rule(thing)
    except BadRule:
        return False
    return True


def is_result(thing):
    """Whether a thing is a RESULT."""
    return is_int_within(thing, 0, GREATEST_RESULT)


def need_row(thing):
    """The thing itself, if it is a ROW."""
    if not is_tuple(thing, 0, MOST_RESULTS):
        raise BadRow(None)
    number = first_outside(thing, 0, GREATEST_RESULT)
    if number is not None:
        raise BadRow(number)
    return thing


def is_row(thing):
    """Whether a thing is a ROW."""
    try:
        need_row(thing)
    except BadRow:
        return False
    return True


def need_row_of(thing, least):
    """The thing itself, if it is a ROW of at least so many RESULTS."""
    need_row(thing)
    if len(thing) < least:
        raise BadRow(None)
    return thing


def index_of(rule, results):
    """The INDEX by a RULE behind N or more RESULTS.

    Nothing is checked, so these may be more than a ROW has.
    """
    last = sorted(results[-len(rule):])
    return sum([weight * result for weight, result in zip(rule, last)])


def indexes_by_ones(rule):
    """The INDEXES of bits: for 0 ones, 1, 2, .. up to N among them."""
    told = [0]
    # The ones are the greatest bits, so the last weights are theirs.
    for weight in rule[::-1]:
        told.append(told[-1] + weight)
    return told


def index(rule, row):
    """The INDEX by a RULE behind a ROW of at least N RESULTS."""
    need_rule(rule)
    need_row_of(row, len(rule))
    return index_of(rule, row)


def indexes(rule, row):
    """The INDEXES by a RULE behind the first N RESULTS of a ROW, the first N + 1, up to all."""
    need_rule(rule)
    need_row(row)
    return tuple([index_of(rule, row[:many]) for many in range(len(rule), len(row) + 1)])


def layer(row, level):
    """The LAYER of a ROW for a level: 1 for each RESULT that is at least the level, else 0."""
    need_row(row)
    if not is_int(level) or level < 1:
        raise BadNumber(level)
    return tuple([int(result >= level) for result in row])
