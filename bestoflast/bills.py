"""BILLS, their WIDTH, what RESULTS pay by them, and the WORTH of a ROW."""

from bestoflast.errors import BadBill, BadNumber
from bestoflast.kinds import is_int_within, is_tuple
from bestoflast.rules import index_of, is_rule, need_row_of

GREATEST_FACTOR = 50
MOST_TERMS = 2


def is_factor(thing):
    """Whether a thing can be OWN, AHEAD or BEHIND."""
    return is_int_within(thing, -GREATEST_FACTOR, GREATEST_FACTOR)


def is_term(thing):
    """Whether a thing is a TERM."""
    if not is_tuple(thing, 3, 3):
        return False
    rule, ahead, behind = thing
    return is_rule(rule) and is_factor(ahead) and is_factor(behind)


def need_bill(thing):
    """The thing itself, if it is a BILL."""
    if not is_tuple(thing, 2, 2):
        raise BadBill("form")
    own, terms = thing
    if not is_factor(own):
        raise BadBill("own")
    if not is_tuple(terms, 0, MOST_TERMS):
        raise BadBill("terms")
    for number, term in enumerate(terms):
        if not is_term(term):
            raise BadBill(number)
    return thing


def is_bill(thing):
    """Whether a thing is a BILL."""
    try:
        need_bill(thing)
    except BadBill:
        return False
    return True


def width_of(bill):
    """The WIDTH of what is known to be a BILL."""
    return max([len(term[0]) for term in bill[1]], default=1)


def width(bill):
    """The WIDTH of a BILL."""
    return width_of(need_bill(bill))


def last_pay(bill, results):
    """What the last one of more than WIDTH RESULTS pays. Nothing is checked."""
    own, terms = bill
    before = results[:-1]
    parts = [
        ahead * index_of(rule, before) + behind * index_of(rule, results)
        for rule, ahead, behind in terms
    ]
    return own * results[-1] + sum(parts)


def pays_of(bill, results):
    """What all RESULTS pay but the first WIDTH ones.

    Nothing is checked, so these may be more than a ROW has.
    """
    wide = width_of(bill)
    return tuple([last_pay(bill, results[at - wide:at + 1]) for at in range(wide, len(results))])


def pays(bill, row):
    """What all RESULTS of a ROW of at least WIDTH pay, but the first WIDTH ones."""
    need_bill(bill)
    need_row_of(row, width_of(bill))
    return pays_of(bill, row)


def worth(bill, row):
    """The WORTH of a ROW of at least WIDTH RESULTS: what all of them pay together."""
    return sum(pays(bill, row))


def added(bill, other):
    """The BILL of two: both OWN together, and the TERMS of the first one, then of the other."""
    own, terms = need_bill(bill)
    other_own, other_terms = need_bill(other)
    both = (own + other_own, terms + other_terms)
    if not is_bill(both):
        raise BadNumber(other)
    return both
