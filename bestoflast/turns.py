"""The order of results: ROWS that are turned, their TURN, and the GREATEST TURN of a BILL."""

from bestoflast.apart import best_turned
from bestoflast.bills import need_bill, pays_of, width_of
from bestoflast.errors import BadNumber
from bestoflast.graphs import bit_pays
from bestoflast.kinds import is_int_within
from bestoflast.rules import need_row


def need_place(bill, row, number):
    """Refuses what are no BILL, no ROW, and no number at which the ROW can be turned."""
    wide = width_of(need_bill(bill))
    need_row(row)
    if not is_int_within(number, wide, len(row) - 2):
        raise BadNumber(number)


def turned_at(row, number):
    """The ROW with the RESULT of this number and the next one exchanged."""
    return row[:number] + (row[number + 1], row[number]) + row[number + 2:]


def turned(bill, row, number):
    """The ROW turned at a number."""
    need_place(bill, row, number)
    return turned_at(row, number)


def turn(bill, row, number):
    """The TURN of a ROW at a number: the WORTH of the turned one less its own."""
    need_place(bill, row, number)
    wide = width_of(bill)
    # What comes further behind pays by RESULTS that are the same in both.
    part = row[number - wide:number + wide + 2]
    return sum(pays_of(bill, turned_at(part, wide))) - sum(pays_of(bill, part))


def best_of_turns(bill):
    """The GREATEST TURN, and the first one of the shortest BIT ROWS of this, turned at WIDTH."""
    wide = width_of(need_bill(bill))
    paid, row = best_turned(bit_pays(bill), wide)
    if paid > 0:
        return paid, row
    return 0, (0,) * (wide + 2)


def greatest_turn(bill):
    """The GREATEST TURN of a BILL."""
    paid, _ = best_of_turns(bill)
    return paid


def turn_row(bill):
    """A BIT ROW and a number at which its TURN is the GREATEST TURN."""
    # No bit more than WIDTH stands ahead of the two: the ROW would be shorter without it.
    _, row = best_of_turns(bill)
    return row, width_of(bill)
