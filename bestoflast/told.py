"""Weights told back: BIT ROWS that tell RULES, RULES that fit what is seen, and what to ask next."""

from bestoflast.errors import BadNumber, BadRow, Nothing
from bestoflast.graphs import BITS, many_of, ones_of, signs_of
from bestoflast.kinds import first_outside, is_int, is_int_within, is_tuple
from bestoflast.rules import (
    MOST_WEIGHTS, index_of, indexes_by_ones, is_row, is_rule, need_row,
)

MOST_RULES = 20
MOST_SEEN = 50
LEAST_SIZE = 6
GREATEST_SIZE = 10


def need_bit_row(thing):
    """The thing itself, if it is a BIT ROW."""
    number = first_outside(need_row(thing), 0, 1)
    if number is not None:
        raise BadRow(number)
    return thing


def need_many(thing):
    """The thing itself, if it can be how many weights a RULE has."""
    if not is_int_within(thing, 1, MOST_WEIGHTS):
        raise BadNumber(thing)
    return thing


def ones_behind(row, many):
    """How many ones there are among the last so many bits behind the first so many, and so on."""
    return [sum(row[at:at + many]) for at in range(len(row) - many + 1)]


def tells(row, many):
    """Whether a BIT ROW tells RULES of so many weights."""
    found = ones_behind(row, many)
    return all([ones in found for ones in range(1, many + 1)])


def does_tell(row, many):
    """Whether a BIT ROW tells RULES of so many weights."""
    need_bit_row(row)
    return tells(row, need_many(many))


def telling_row(many):
    """The first one of the shortest BIT ROWS that tell RULES of so many weights."""
    need_many(many)
    # Each of N numbers of ones wants some last N bits of its own, so 2 * N - 1 bits are the fewest;
    # with these the ones come or go one by one.
    return (0,) * (many - 1) + (1,) * many


def need_numbers(thing, row):
    """How many weights a RULE has that such INDEXES are told of, behind a BIT ROW that tells it."""
    if not is_tuple(thing, 1, len(row)) or not all([is_int(number) for number in thing]):
        raise BadNumber(thing)
    many = len(row) + 1 - len(thing)
    if many > MOST_WEIGHTS or not tells(row, many):
        raise BadNumber(thing)
    return many


def rule_told(row, numbers):
    """The RULE that has the INDEXES told behind a BIT ROW."""
    need_bit_row(row)
    many = need_numbers(numbers, row)
    told = {0: 0}
    for ones, number in zip(ones_behind(row, many), numbers):
        if told.setdefault(ones, number) != number:
            raise Nothing(numbers)
    # The last weight is what the first 1 brings, and so on ahead from there.
    rule = tuple([told[ones] - told[ones - 1] for ones in reversed(range(1, many + 1))])
    if not is_rule(rule):
        raise Nothing(numbers)
    return rule


def need_menu(thing):
    """The thing itself, if it is a MENU."""
    if not is_tuple(thing, 1, MOST_RULES) or not all([is_rule(rule) for rule in thing]):
        raise BadNumber(thing)
    return thing


def is_seen_pair(thing):
    """Whether a thing is a pair of a ROW and an integer."""
    return is_tuple(thing, 2, 2) and is_row(thing[0]) and is_int(thing[1])


def need_seen(thing):
    """The thing itself, if it is SEEN."""
    if not is_tuple(thing, 0, MOST_SEEN) or not all([is_seen_pair(pair) for pair in thing]):
        raise BadNumber(thing)
    return thing


def does_fit(rule, seen):
    """Whether a RULE fits SEEN."""
    for row, number in seen:
        if len(row) < len(rule) or index_of(rule, row) != number:
            return False
    return True


def fitting(menu, seen):
    """The numbers of the RULES of a MENU that fit SEEN, ascending."""
    need_menu(menu)
    need_seen(seen)
    return tuple([number for number, rule in enumerate(menu) if does_fit(rule, seen)])


def lots_by_row(rules):
    """For each tuple of as many bits as the greatest N of RULES: how many have one INDEX, at most."""
    ones = ones_of(max([len(rule) for rule in rules]))
    tables = [(indexes_by_ones(rule), many_of(2, len(rule))) for rule in rules]
    lots = []
    for number in range(len(ones)):
        indexes = [told[ones[number % many]] for told, many in tables]
        lots.append(max([indexes.count(index) for index in indexes]))
    return lots


def best_ask(menu, seen, size):
    """The first BIT ROW of so many bits that leaves the least of those together that fit, or None."""
    fits = [menu[number] for number in fitting(menu, seen)]
    if not is_int_within(size, LEAST_SIZE, GREATEST_SIZE):
        raise BadNumber(size)
    if len(fits) <= 1:
        return None
    lots = lots_by_row(fits)
    least = min(lots)
    if least == len(fits):
        return None
    # Bits further ahead than the greatest N are in no INDEX: in the first ROW they are 0.
    return signs_of(lots.index(least), BITS, size)
