"""A live file: a BILL, and a ROW to which RESULTS are added and from which they are taken back."""

from bestoflast.bills import last_pay, need_bill, pays_of, width_of
from bestoflast.errors import BadNumber, Nothing
from bestoflast.kinds import is_int, is_int_within
from bestoflast.rules import MOST_RESULTS, index_of, is_result


class Trial:
    """What a file is put back by, behind the block of a with statement."""

    def __init__(self, one):
        self._one = one
        self._before = one.row

    def __enter__(self):
        # Other RESULTS may have come since the trial was made.
        self._before = self._one.row
        return self._one

    def __exit__(self, kind, value, trace):
        self._one._row = self._before


class File:
    """A file of a BILL, at first with the empty ROW."""

    def __init__(self, bill):
        self._bill = need_bill(bill)
        self._row = ()

    @property
    def bill(self):
        """The BILL."""
        return self._bill

    @property
    def row(self):
        """The ROW of all RESULTS that are there."""
        return self._row

    def add(self, result):
        """Puts a RESULT behind the others: what it pays, or None of one of the first WIDTH."""
        if not is_result(result):
            raise BadNumber(result)
        if len(self._row) == MOST_RESULTS:
            raise Nothing(MOST_RESULTS)
        self._row = self._row + (result,)
        if len(self._row) <= width_of(self._bill):
            return None
        return last_pay(self._bill, self._row)

    def __call__(self):
        """The WORTH of the ROW, or None if it is too short."""
        if len(self._row) < width_of(self._bill):
            return None
        return sum(pays_of(self._bill, self._row))

    def index(self, number):
        """The INDEX by the RULE of a TERM, or None if the ROW is too short."""
        terms = self._bill[1]
        if not is_int_within(number, 0, len(terms) - 1):
            raise BadNumber(number)
        rule = terms[number][0]
        if len(self._row) < len(rule):
            return None
        return index_of(rule, self._row)

    def __len__(self):
        return len(self._row)

    def back(self, *, many=1):
        """Takes back the last RESULTS."""
        if not is_int(many) or many < 1:
            raise BadNumber(many)
        if many > len(self._row):
            raise Nothing(many)
        self._row = self._row[:len(self._row) - many]

    def copy(self):
        """A file that stands likewise, and goes on by itself."""
        other = File(self._bill)
        other._row = self._row
        return other

    def trial(self):
        """An object for one with statement, behind which the file is as it was ahead of its block."""
        return Trial(self)

    def __eq__(self, other):
        return isinstance(other, File) and self._bill == other._bill and self._row == other._row

    def __contains__(self, value):
        return is_result(value) and value in self._row


def under(manager, deed):
    """What a deed returns, called in a with statement with what the manager gives."""
    with manager as one:
        return deed(one)
