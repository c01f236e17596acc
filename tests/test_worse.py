"""Whether worse ROWS pay: gain, greatest_gain, gain_rows, does_pay."""

import random
from itertools import product

from bestoflast.bills import width, worth
from bestoflast.bounds import greatest
from bestoflast.errors import BadBill, BadKind, BadRow
from bestoflast.worse import (
    check_worse, does_pay, gain, gain_rows, greatest_gain, worse_paper,
)
from tests.helper import NO_INTEGERS, NO_TUPLES, Case
from tests.search import (
    BEST, BEST_OF_SIX, LEAST_OF_SIX, SIX, SIX_UP, SMALL, bills_by_chance, pairs_gain, search_gain,
    worse_ring_by_words,
)

KINDS = ("any", "once")
NO_KINDS = (*NO_INTEGERS, *NO_TUPLES, "Any", "any ", " once", "ones", "anyonce", "a", "none", 5)
BY_CHANCE = bills_by_chance(60, (1, 2, 3), seed=21)
BY_HAND = (
    # The bill, then for "any" and for "once" the greatest gain and how many bits it wants.
    ((0, ()), (0, 1), (0, 1)),
    ((1, ()), None, (1, 2)),
    ((50, ()), None, (50, 2)),
    ((-1, ()), (0, 1), (0, 1)),
    ((-50, ()), (0, 1), (0, 1)),
    # The last one less the one ahead of it.
    ((0, (((1,), -1, 1),)), (1, 2), (1, 2)),
    ((0, (((1,), 1, -1),)), (0, 1), (0, 1)),
    ((0, (((20,), -50, 50),)), (1000, 2), (1000, 2)),
    # A worse one pays 2 one result later on, and costs 1 at once.
    ((0, (((1,), 2, -1),)), None, (1, 3)),
    ((-1, (((1,), 1, 0),)), (0, 1), (0, 1)),
    ((-1, (((1,), 2, 0),)), None, (1, 3)),
    ((-2, (((1,), 1, 0),)), (0, 1), (0, 1)),
    # It pays at once, and costs more later on: only the last one of a row pays.
    ((0, (((1,), -3, 2),)), (2, 2), (2, 2)),
    # Bounded, as no row is worth more than 0; but a row that costs at each change can be mended.
    ((0, (((-1, 1), 0, -1),)), None, (2, 4)),
    # The best two of three: both of them, or one.
    ((0, ((BEST, -1, 1),)), (2, 5), (1, 4)),
    ((0, ((BEST, 1, -1),)), (0, 3), (0, 3)),
    ((-1, ((BEST, -1, 1),)), (0, 3), (0, 3)),
    # Rules of unlike lengths.
    ((0, (((1,), -1, 1), ((0, 0, 0, 1), -1, 1))), (2, 5), (2, 5)),
    ((0, (((0, 0, 0, 1), 0, 1),)), None, (4, 8)),
    # Six weights twice: 1 for each of the best three, 2 for the sixth.
    (SIX_UP, (5, 12), (2, 7)),
    ((-1, SIX_UP[1]), (1, 7), (1, 7)),
    ((-2, SIX_UP[1]), (0, 6), (0, 6)),
    ((1, SIX_UP[1]), None, (3, 7)),
    ((0, ((BEST_OF_SIX, 1, -1), (LEAST_OF_SIX, 2, -2))), (0, 6), (0, 6)),
    ((0, (((20,) * 6, 50, 50), ((20,) * 6, 0, 0))), None, (12000 + 11 * 1000 - 11000, 13)),
    ((50, (((20,) * 6, 50, 50), ((-20,) * 6, -50, -50))), None, (50 + 12 * 2000, 13)),
    ((-50, (((20,) * 6, -50, 50), ((-20,) * 6, 50, -50))), (6 * 1950, 12), (1950, 7)),
    ((-50, (((20,) * 6, -50, -50), ((-20,) * 6, 50, 50))), (0, 6), (0, 6)),
)


def greatest_told(bill, kind):
    """The greatest gain and the bits of its rows, or None."""
    rows = gain_rows(bill, kind)
    return None if rows is None else (greatest_gain(bill, kind), len(rows[0]))


class Gain(Case):

    def test_by_hand(self):
        self.assertEqual(gain((2, ()), (3, 4, 5), (3, 7, 5)), 6)
        self.assertEqual(gain((-2, ()), (3, 4, 5), (3, 7, 9)), -14)
        self.assertEqual(gain((0, (((1,), 1, 0),)), (3, 4, 5), (3, 7, 9)), 3)
        self.assertEqual(gain((0, (((1,), 0, 1),)), (3, 4, 5), (3, 7, 9)), 7)
        # The best two of 4, 9, 6 are 15, of 9, 6, 5 they are 15, too.
        bill = (1, ((BEST, -1, 0),))
        self.assertEqual(gain(bill, (4, 9, 6, 5, 1), (4, 9, 6, 5, 1)), 0)
        self.assertEqual(gain(bill, (4, 9, 6, 5, 1), (4, 9, 6, 8, 1)), 3 - 2)
        self.assertEqual(gain(bill, (4, 9, 6, 5, 1), (4, 9, 6, 5, 8)), 7)

    def test_two_of_width_gain_nothing(self):
        for bill in (*SMALL, *SIX):
            row = tuple(range(width(bill)))
            self.assertEqual(gain(bill, row, row), 0)

    def test_is_the_one_worth_less_the_other_one(self):
        chance = random.Random(3)
        for bill in (*SMALL, *SIX):
            for length in (width(bill), width(bill) + 1, 20, 200):
                row = tuple(chance.randint(0, 9) for _ in range(length))
                more = [chance.randint(0, 3) for _ in range(length - width(bill))]
                other = tuple(map(sum, zip(row, [0] * width(bill) + more)))
                told = self.unchanged(gain, bill, row, other)
                self.assertEqual(told, worth(bill, other) - worth(bill, row))

    def test_by_name(self):
        self.assertEqual(gain(other=(3, 7, 5), bill=(2, ()), row=(3, 4, 5)), 6)

    def test_bounds(self):
        row = (0,) * 6 + (0,) * 194
        other = (0,) * 6 + (10 ** 6,) * 194
        bill = (50, (((20,) * 6, 50, 50), ((20,) * 6, 50, 50)))
        self.assertEqual(gain(bill, row, other), worth(bill, other))

    def test_no_row(self):
        for bill in ((2, ()), SIX_UP):
            for thing in NO_TUPLES:
                self.refused(BadRow, "number", None, gain, bill, thing, (1,) * 7)
                self.refused(BadRow, "number", None, gain, bill, (1,) * 7, thing)
            self.refused(BadRow, "number", None, gain, bill, (1,) * 201, (1,) * 201)
            for at in range(8):
                for thing in (*NO_INTEGERS, -1, 10 ** 6 + 1):
                    wrong = (1,) * at + (thing,) + (1,) * (7 - at)
                    self.refused(BadRow, "number", at, gain, bill, wrong, (1,) * 8)
                    self.refused(BadRow, "number", at, gain, bill, (1,) * 8, wrong)

    def test_too_short(self):
        for bill in (*SMALL, *SIX):
            for fewer in range(width(bill)):
                row = (1,) * fewer
                self.refused(BadRow, "number", None, gain, bill, row, row)
                self.refused(BadRow, "number", None, gain, bill, row, (1,) * width(bill))

    def test_not_as_long(self):
        for bill in (*SMALL, *SIX):
            row = (1,) * (width(bill) + 2)
            for other in ((), row[:-2], row[:-1], row + (1,), row + (1, 1), (1,) * 200):
                self.refused(BadRow, "number", None, gain, bill, row, other)
            # Not as long is told ahead of what is less, a thing that is no RESULT ahead of both.
            self.refused(BadRow, "number", None, gain, bill, row, (0,) * (len(row) + 1))
            self.refused(BadRow, "number", 1, gain, bill, row, (0, -1) + row)

    def test_a_result_less(self):
        for bill in (*SMALL, *SIX):
            row = (5,) * (width(bill) + 4)
            for at in range(len(row)):
                for less in (0, 4):
                    other = row[:at] + (less,) + row[at + 1:]
                    self.refused(BadRow, "number", at, gain, bill, row, other)

    def test_a_greater_one_among_the_first(self):
        for bill in (*SMALL, *SIX):
            row = (5,) * (width(bill) + 4)
            for at in range(len(row)):
                for more in (6, 10 ** 6):
                    other = row[:at] + (more,) + row[at + 1:]
                    if at < width(bill):
                        self.refused(BadRow, "number", at, gain, bill, row, other)
                    else:
                        self.assertEqual(gain(bill, row, other), worth(bill, other) - worth(bill, row))

    def test_the_first_fault_is_told(self):
        row = (5,) * 8
        self.refused(BadRow, "number", 1, gain, SIX_UP, row, (5, 6, 4, 5, 5, 5, 4, 5))
        self.refused(BadRow, "number", 1, gain, SIX_UP, row, (5, 4, 6, 5, 5, 5, 4, 5))
        self.refused(BadRow, "number", 7, gain, SIX_UP, row, (5, 5, 5, 5, 5, 5, 6, 4))

    def test_the_first_argument_is_told_first(self):
        bad = (None, (), (1,), (-1,), (1,) * 201)
        for row in bad:
            for other in bad:
                self.refused(BadBill, "part", "form", gain, None, row, other)
                self.refused(BadBill, "part", "own", gain, (51, ()), row, other)
                self.refused(BadBill, "part", 0, gain, other=other, row=row, bill=(0, (None,)))
        for other in bad:
            self.refused(BadRow, "number", 2, gain, SIX_UP, (1, 1, -1), other)
            self.refused(BadRow, "number", 7, gain, SIX_UP, (1,) * 7 + (None,), other)


class ByHand(Case):

    def test_each(self):
        for bill, some, once in BY_HAND:
            for kind, wanted in (("any", some), ("once", once)):
                self.assertEqual(greatest_told(bill, kind), wanted, (bill, kind))
                self.assertEqual(greatest_gain(bill, kind), wanted and wanted[0], (bill, kind))
                self.assertIs(does_pay(bill, kind), wanted is None or wanted[0] > 0, (bill, kind))

    def test_rows_by_hand(self):
        self.assertEqual(gain_rows((0, ()), "any"), ((0,), (0,)))
        self.assertEqual(gain_rows((0, (((1,), -1, 1),)), "any"), ((0, 0), (0, 1)))
        self.assertEqual(gain_rows(SIX_UP, "any"), ((0,) * 12, (0,) * 6 + (1,) * 6))
        self.assertIsNone(gain_rows((1, ()), "any"))

    def test_bounded_and_yet_without_a_greatest_gain(self):
        bill = (0, (((-1, 1), 0, -1),))
        self.assertEqual(greatest(bill), 0)
        self.assertIsNone(greatest_gain(bill, "any"))

    def test_none_without_a_bound(self):
        # All rows that pay are worse than one with 0 alone behind the first ones.
        for bill in (*SMALL, *SIX, *BY_CHANCE):
            if greatest(bill) is None:
                self.assertIsNone(greatest_gain(bill, "any"))


class Rows(Case):

    def looked_at(self, bill, kind):
        """Rows of a kind with the told gain."""
        told = gain_rows(bill, kind)
        self.assertIs(told.__class__, tuple)
        row, worse = told
        for bits in told:
            self.assertIs(bits.__class__, tuple)
            self.assertTrue(all(bit.__class__ is int and bit in (0, 1) for bit in bits))
        self.assertEqual(len(row), len(worse))
        self.assertEqual(row[:width(bill)], worse[:width(bill)])
        self.assertTrue(all(one <= two for one, two in zip(row, worse)))
        if kind == "once":
            self.assertLessEqual(sum(worse) - sum(row), 1)
        self.assertEqual(worth(bill, worse) - worth(bill, row), greatest_gain(bill, kind))
        self.assertEqual(gain(bill, row, worse), greatest_gain(bill, kind))
        return len(row)

    def searched(self, bill, kind, most):
        """The greatest gain, as a search over pairs of up to so many bits finds it."""
        fewest, top = search_gain(bill, kind, most)
        if greatest_gain(bill, kind) is None:
            self.assertIsNone(gain_rows(bill, kind))
            self.assertTrue(does_pay(bill, kind))
            word, couple, ring = worse_paper(bill)
            self.assertEqual(word, "ring")
            self.assertTrue(worse_ring_by_words(bill, couple, ring), bill)
            return False
        self.assertGreaterEqual(greatest_gain(bill, kind), top)
        if self.looked_at(bill, kind) <= most:
            self.assertEqual(greatest_told(bill, kind), (top, fewest), (bill, kind))
            return True
        return False

    def test_any_of_small_bills(self):
        found = [
            self.searched(bill, "any", width(bill) + 5)
            for bill in (*SMALL, *BY_CHANCE, *bills_by_chance(20, (3, 4), seed=22))
        ]
        self.assertGreater(found.count(True), 50)
        self.assertGreater(found.count(False), 20)

    def test_once_of_small_bills(self):
        for bill in (*SMALL, *BY_CHANCE):
            self.assertTrue(self.searched(bill, "once", 2 * width(bill) + 2), bill)

    def test_any_of_six_weights(self):
        found = [self.searched(bill, "any", 12) for bill in SIX]
        for bill in bills_by_chance(12, (6,), seed=23):
            found.append(self.searched(bill, "any", 10))
        self.assertGreater(found.count(True), 8)

    def test_once_of_six_weights(self):
        for bill in (*SIX, *bills_by_chance(12, (6,), seed=24)):
            self.assertTrue(self.searched(bill, "once", 13), bill)

    def test_no_more_bits_than_one_greater_place_wants(self):
        for bill in (*SMALL, *SIX, *BY_CHANCE):
            self.assertLessEqual(self.looked_at(bill, "once"), 2 * width(bill) + 1)


class Facts(Case):

    def test_most_times_the_greatest_gain(self):
        chance = random.Random(4)
        for bill in (*SMALL, *SIX):
            wide, top = width(bill), greatest_gain(bill, "any")
            top_once = greatest_gain(bill, "once")
            for _ in range(40):
                row = tuple(chance.randint(0, 6) for _ in range(chance.randint(wide, 25)))
                more = [chance.randint(0, 3) * chance.randint(0, 1) for _ in row[wide:]]
                other = row[:wide] + tuple(map(sum, zip(row[wide:], more)))
                if top is not None:
                    self.assertLessEqual(gain(bill, row, other), max(other) * top)
                if len(row) > wide:
                    at = chance.randrange(wide, len(row))
                    once = row[:at] + (row[at] + chance.randint(0, 9),) + row[at + 1:]
                    self.assertLessEqual(gain(bill, row, once), max(once) * top_once)

    def test_rows_with_just_that_gain(self):
        for bill in (*SMALL, *SIX):
            for kind in KINDS:
                told = gain_rows(bill, kind)
                for most in (0, 1, 3, 10 ** 6):
                    if told is not None:
                        row, other = [tuple(most * bit for bit in bits) for bits in told]
                        self.assertEqual(gain(bill, row, other), most * greatest_gain(bill, kind))

    def test_there_always_is_one_of_the_kind_once(self):
        for bill in (*SMALL, *SIX, *BY_CHANCE):
            self.assertIs(greatest_gain(bill, "once").__class__, int)
            self.assertGreaterEqual(greatest_gain(bill, "once"), 0)

    def test_any_is_none_or_at_least_once(self):
        for bill in (*SMALL, *SIX, *BY_CHANCE):
            top = greatest_gain(bill, "any")
            if top is not None:
                self.assertIs(top.__class__, int)
                self.assertGreaterEqual(top, greatest_gain(bill, "once"))

    def test_one_pays_just_if_the_other_one_does(self):
        found = []
        for bill in (*SMALL, *SIX, *BY_CHANCE):
            some, once = greatest_gain(bill, "any"), greatest_gain(bill, "once")
            self.assertEqual(some == 0, once == 0)
            for kind in KINDS:
                self.assertIs(does_pay(bill, kind), once > 0)
            found.append(once > 0)
        self.assertGreater(found.count(True), 20)
        self.assertGreater(found.count(False), 20)

    def test_no_search_finds_one_where_none_pays(self):
        for bill in (*SMALL, *SIX, *BY_CHANCE):
            if not does_pay(bill, "any"):
                for found in pairs_gain(bill, "any", width(bill) + 3):
                    self.assertLessEqual(max(more for _, _, more in found), 0)

    def test_the_paper_says_the_same(self):
        for bill in (*SMALL, *SIX, *BY_CHANCE):
            word = check_worse(bill, worse_paper(bill))
            self.assertEqual(word == "bound", greatest_gain(bill, "any") is not None)


class Calls(Case):

    def test_no_kind(self):
        for call in (greatest_gain, gain_rows, does_pay):
            for bill in ((0, ()), (1, ()), SIX_UP):
                for thing in NO_KINDS:
                    self.refused(BadKind, "value", thing, call, bill, thing)

    def test_the_bill_is_told_first(self):
        for call in (greatest_gain, gain_rows, does_pay):
            for kind in ("any", "once", "both", None, [], True):
                for thing in (*NO_TUPLES, (), (1,), (1, (), ())):
                    self.refused(BadBill, "part", "form", call, thing, kind)
                self.refused(BadBill, "part", "own", call, (51, ()), kind)
                self.refused(BadBill, "part", "terms", call, (1, None), kind)
                self.refused(BadBill, "part", 1, call, kind=kind, bill=(1, ((BEST, 0, 0), None)))

    def test_by_name_and_twice(self):
        for call in (greatest_gain, gain_rows, does_pay):
            for kind in KINDS:
                for bill in (*SMALL, *SIX):
                    self.assertEqual(self.unchanged(call, bill, kind), call(kind=kind, bill=bill))

    def test_what_does_pay_returns(self):
        for bill in (*SMALL, *SIX):
            for kind in KINDS:
                self.assertIs(does_pay(bill, kind).__class__, bool)

    def test_bounds_of_what_can_be_passed(self):
        for own, ahead, behind, weight in product((-50, 50), (-50, 50), (-50, 50), (-20, 20)):
            bill = (own, (((weight,) * 6, ahead, behind), ((-weight,) * 6, behind, ahead)))
            for kind in KINDS:
                self.assertEqual(greatest_gain(bill, kind) is None, gain_rows(bill, kind) is None)
                self.assertIs(does_pay(bill, kind), greatest_gain(bill, kind) != 0)
