"""BILLS, and what RESULTS pay by them."""

from itertools import product

from bestoflast.bills import added, need_bill, pays, width, worth
from bestoflast.errors import BadBill, BadNumber, BadRow
from bestoflast.rules import index
from tests.helper import NO_INTEGERS, NO_TUPLES, Case, copied, rows

BEST = (0, 1, 1)
TERM = (BEST, -1, 0)
BILLS = (
    (0, ()), (1, ()), (-50, ()), (50, ()),
    (0, (((1,), 1, 0),)), (0, (((1,), 0, 1),)), (2, (TERM,)), (-3, ((BEST, 5, -7),)),
    (0, (((1, -1), 2, 3), ((1,), 0, -1))), (7, (((1,), 0, -1), ((1, 0, 2, -20), 4, 1))),
    (50, (((20,) * 6, 50, 50), ((-20,) * 6, -50, -50))),
    (-50, (((20,) * 6, -50, 50), ((-20,) * 6, 50, -50))),
    (1, ((BEST, 1, -1), (BEST, 1, -1))),
)
NO_FACTORS = (*NO_INTEGERS, 51, -51, 52, 100, -100, 10 ** 59, -10 ** 59)


def pays_by_hand(bill, row):
    """What all RESULTS pay, straight from the words: by the ROW ahead, and the ROW up to each."""
    told = []
    for at in range(width(bill), len(row)):
        paid = bill[0] * row[at]
        for rule, ahead, behind in bill[1]:
            paid += ahead * index(rule, row[:at])
            paid += behind * index(rule, row[:at + 1])
        told.append(paid)
    return tuple(told)


class NeedBill(Case):

    def test_a_bill_comes_back_itself(self):
        for bill in BILLS:
            self.assertIs(need_bill(bill), bill)
            self.assertIs(need_bill(thing=bill), bill)

    def test_every_number_at_every_place(self):
        for number in range(-50, 51):
            for bill in (
                (number, ()), (number, (TERM, TERM)),
                (1, ((BEST, number, 0),)), (1, ((BEST, 0, number),)),
                (1, (TERM, (BEST, number, 0))), (1, (TERM, (BEST, 0, number))),
            ):
                self.assertIs(need_bill(bill), bill)

    def test_rules_of_one_and_of_six(self):
        for many in range(1, 7):
            for weight in (-20, 0, 20):
                bill = (0, (((weight,) * many, 1, 1),))
                self.assertIs(need_bill(bill), bill)

    def test_no_pair(self):
        for thing in (*NO_TUPLES, (), (1,), (1, (), ()), (None,), (1, (), None), (1, 2, 3, 4)):
            self.refused(BadBill, "part", "form", need_bill, thing)
        self.refused(BadBill, "part", "form", need_bill, [1, ()])

    def test_no_own(self):
        for thing in NO_FACTORS:
            self.refused(BadBill, "part", "own", need_bill, (thing, ()))
            self.refused(BadBill, "part", "own", need_bill, (thing, (TERM,)))

    def test_no_terms(self):
        bad = (*NO_TUPLES, (TERM,) * 3, (TERM,) * 4, (None,) * 3, [TERM], [TERM, TERM], {0: TERM})
        for thing in bad:
            self.refused(BadBill, "part", "terms", need_bill, (1, thing))

    def test_a_term_stands_in_a_tuple_of_its_own(self):
        self.refused(BadBill, "part", "terms", need_bill, (1, TERM))
        self.refused(BadBill, "part", 0, need_bill, (1, TERM[:2]))

    def test_no_triple(self):
        for thing in (*NO_TUPLES, (), (BEST,), (BEST, 1), (BEST, 1, 1, 1), [BEST, 1, 1], BEST):
            self.refused(BadBill, "part", 0, need_bill, (1, (thing,)))
            self.refused(BadBill, "part", 0, need_bill, (1, (thing, TERM)))
            self.refused(BadBill, "part", 1, need_bill, (1, (TERM, thing)))

    def test_no_rule_in_a_term(self):
        bad = (*NO_TUPLES, (), (1,) * 7, (21,), (-21,), (1, 2, None), (True,), (1, 2, 3, 4, 5, 21))
        for thing in bad:
            self.refused(BadBill, "part", 0, need_bill, (1, ((thing, 1, 1),)))
            self.refused(BadBill, "part", 0, need_bill, (1, ((thing, 1, 1), TERM)))
            self.refused(BadBill, "part", 1, need_bill, (1, (TERM, (thing, 1, 1))))

    def test_no_number_in_a_term(self):
        for thing in NO_FACTORS:
            for term in ((BEST, thing, 1), (BEST, 1, thing), (BEST, thing, thing)):
                self.refused(BadBill, "part", 0, need_bill, (1, (term,)))
                self.refused(BadBill, "part", 0, need_bill, (1, (term, TERM)))
                self.refused(BadBill, "part", 1, need_bill, (1, (TERM, term)))

    def test_the_first_fault_is_told(self):
        self.refused(BadBill, "part", "form", need_bill, (None, None, None))
        self.refused(BadBill, "part", "own", need_bill, (51, None))
        self.refused(BadBill, "part", "own", need_bill, (True, (None,)))
        self.refused(BadBill, "part", "terms", need_bill, (1, (None, None, None)))
        self.refused(BadBill, "part", 0, need_bill, (1, (None, None)))
        self.refused(BadBill, "part", 0, need_bill, (1, ((BEST, 51, 0), ((), 0, 0))))

    def test_lists_stay_as_they_were(self):
        told = [1, [[[0, 1, 1], -1, 0]]]
        self.refused(BadBill, "part", "form", need_bill, told)
        self.refused(BadBill, "part", "terms", need_bill, tuple(told))
        self.refused(BadBill, "part", 0, need_bill, (1, tuple(told[1])))
        self.assertEqual(told, [1, [[[0, 1, 1], -1, 0]]])


class Width(Case):

    def test_without_terms(self):
        self.assertEqual(width((0, ())), 1)
        self.assertEqual(width((50, ())), 1)

    def test_of_one_term(self):
        for many in range(1, 7):
            self.assertEqual(self.unchanged(width, (0, (((0,) * many, 0, 0),))), many)

    def test_of_two_terms_the_greatest(self):
        for one in range(1, 7):
            for two in range(1, 7):
                bill = (1, (((9,) * one, 1, 1), ((-9,) * two, 1, 1)))
                self.assertEqual(width(bill), max(one, two))

    def test_by_name(self):
        self.assertEqual(width(bill=(2, (TERM,))), 3)


class Pays(Case):

    def test_own_alone(self):
        self.assertEqual(pays((3, ()), (5, 9, 7)), (27, 21))
        self.assertEqual(pays((-1, ()), (5, 9, 0)), (-9, 0))
        self.assertEqual(worth((3, ()), (5, 9, 7)), 48)

    def test_ahead_alone(self):
        # The best two of 5, 9, 7, and of 9, 7, 2.
        bill = (0, ((BEST, 1, 0),))
        self.assertEqual(pays(bill, (5, 9, 7, 2, 8)), (16, 16))
        self.assertEqual(worth(bill, (5, 9, 7, 2, 8)), 32)

    def test_behind_alone(self):
        # The best two of 9, 7, 2, and of 7, 2, 8.
        bill = (0, ((BEST, 0, 1),))
        self.assertEqual(pays(bill, (5, 9, 7, 2, 8)), (16, 15))
        self.assertEqual(worth(bill, (5, 9, 7, 2, 8)), 31)

    def test_all_of_a_bill(self):
        bill = (2, ((BEST, -1, 3), ((1,), 5, -7)))
        first = 2 * 2 - 16 + 3 * 16 + 5 * 7 - 7 * 2
        second = 2 * 8 - 16 + 3 * 15 + 5 * 2 - 7 * 8
        self.assertEqual(pays(bill, (5, 9, 7, 2, 8)), (first, second))
        self.assertEqual(worth(bill, (5, 9, 7, 2, 8)), first + second)

    def test_the_widest_rule_tells_who_pays(self):
        short = ((1,), 1, 0)
        long = ((0, 0, 0, 1), 0, 1)
        for terms in ((short, long), (long, short)):
            self.assertEqual(pays((1, terms), (5, 9, 7, 2, 8, 1)), (8 + 2 + 9, 1 + 8 + 8))

    def test_ties(self):
        bill = (1, (((1, 2, 3), -1, 1),))
        self.assertEqual(pays(bill, (4, 4, 4, 4, 7)), (4, 7 + (4 + 8 + 21) - 24))

    def test_just_long_enough_and_too_short(self):
        for bill in BILLS:
            wide = width(bill)
            self.assertEqual(pays(bill, (3,) * wide), ())
            self.assertEqual(worth(bill, (3,) * wide), 0)
            self.assertEqual(len(pays(bill, (3,) * (wide + 1))), 1)
            for fewer in range(wide):
                for call in (pays, worth):
                    self.refused(BadRow, "number", None, call, bill, (3,) * fewer)

    def test_the_greatest(self):
        bill = (50, (((20,) * 6, 50, 50), ((20,) * 6, 50, 50)))
        each = 50 * 10 ** 6 + 200 * 120 * 10 ** 6
        self.assertEqual(pays(bill, (10 ** 6,) * 200), (each,) * 194)
        self.assertEqual(worth(bill, (10 ** 6,) * 200), 194 * each)

    def test_all_small_rows(self):
        for bill in BILLS:
            for row in product((0, 1, 3), repeat=width(bill) + 1):
                self.assertEqual(pays(bill, row), pays_by_hand(bill, row))

    def test_rows_by_chance(self):
        for row in rows(80, 20, 30, seed=5):
            for bill in BILLS:
                if len(row) >= width(bill):
                    told = self.unchanged(pays, bill, row)
                    self.assertIsInstance(told, tuple)
                    self.assertEqual(told, pays_by_hand(bill, row))
                    self.assertEqual(self.unchanged(worth, bill, row), sum(told))

    def test_by_name(self):
        for call, told in ((pays, (-12, 0)), (worth, -12)):
            self.assertEqual(call(row=(5, 9, 7, 2, 8), bill=(2, (TERM,))), told)

    def test_no_bill(self):
        for call in (lambda bill: width(bill), lambda bill: pays(bill, (1,) * 9),
                     lambda bill: worth(bill, (1,) * 9)):
            for thing in NO_TUPLES:
                self.refused(BadBill, "part", "form", call, thing)
            self.refused(BadBill, "part", "own", call, (51, ()))
            self.refused(BadBill, "part", "terms", call, (1, [TERM]))
            self.refused(BadBill, "part", 1, call, (1, (TERM, ((), 0, 0))))

    def test_no_row(self):
        for call in (pays, worth):
            for thing in NO_TUPLES:
                self.refused(BadRow, "number", None, call, (1, ()), thing)
            self.refused(BadRow, "number", None, call, (1, ()), (1,) * 201)
            self.refused(BadRow, "number", 1, call, (1, ()), (1, -1))
            self.refused(BadRow, "number", 2, call, (1, ()), (1, 1, True))
            self.refused(BadRow, "number", 0, call, (2, (TERM,)), (10 ** 6 + 1,))

    def test_the_first_argument_is_told_first(self):
        for call in (pays, worth):
            for row in ((), None, (-1,), (1,) * 201):
                self.refused(BadBill, "part", "form", call, [], row)
                self.refused(BadBill, "part", "own", call, (None, ()), row)
                self.refused(BadBill, "part", "terms", call, (1, None), row)
                self.refused(BadBill, "part", 0, call, row=row, bill=(1, (None,)))


class Added(Case):

    def test_by_hand(self):
        other = ((1, 2), 3, 4)
        self.assertEqual(added((2, (TERM,)), (-5, (other,))), (-3, (TERM, other)))
        self.assertEqual(added((-5, (other,)), (2, (TERM,))), (-3, (other, TERM)))
        self.assertEqual(added((2, (TERM, other)), (1, ())), (3, (TERM, other)))
        self.assertEqual(added((2, ()), (1, (other, TERM))), (3, (other, TERM)))
        self.assertEqual(added((0, ()), (0, ())), (0, ()))
        self.assertEqual(added((2, (TERM,)), (2, (TERM,))), (4, (TERM, TERM)))

    def test_is_a_bill(self):
        for bill in BILLS:
            self.assertEqual(need_bill(self.unchanged(added, bill, (0, ()))), bill)

    def test_the_greatest_and_the_least_own(self):
        self.assertEqual(added((25, ()), (25, ())), (50, ()))
        self.assertEqual(added((-1, ()), (-49, ())), (-50, ()))
        self.assertEqual(added((50, ()), (-50, ())), (0, ()))

    def test_too_great_or_too_small_together(self):
        for one, two in ((25, 26), (50, 1), (1, 50), (50, 50), (-25, -26), (-50, -1), (-1, -50)):
            other = (two, ())
            self.refused(BadNumber, "value", other, added, (one, ()), other)

    def test_too_many_terms_together(self):
        for one, two in ((1, 2), (2, 1), (2, 2)):
            bill, other = (1, (TERM,) * one), (1, (TERM,) * two)
            self.refused(BadNumber, "value", other, added, bill, other)

    def test_the_very_other_one_is_kept(self):
        other = (1, ())
        with self.assertRaises(BadNumber) as caught:
            added((50, ()), other)
        self.assertIs(caught.exception.value, other)

    def test_no_bill_at_each_place(self):
        for part, bad in (
            ("form", None), ("form", [1, ()]), ("own", (51, ())), ("own", (True, ())),
            ("terms", (1, [])), ("terms", (1, (TERM,) * 3)), (0, (1, (None,))),
            (1, (1, (TERM, (BEST, 0, 51)))),
        ):
            self.refused(BadBill, "part", part, added, bad, (1, ()))
            self.refused(BadBill, "part", part, added, (1, ()), bad)
            self.refused(BadBill, "part", part, added, (50, (TERM, TERM)), bad)

    def test_the_first_argument_is_told_first(self):
        for other in (None, (51, ()), (1, (None,))):
            self.refused(BadBill, "part", "terms", added, (1, None), other)
            self.refused(BadBill, "part", "terms", added, other=other, bill=(1, None))

    def test_by_name(self):
        self.assertEqual(added(other=(1, ()), bill=(2, (TERM,))), (3, (TERM,)))

    def test_pays_what_both_pay(self):
        bill, other = (2, (TERM,)), (-5, (((1, 2, 0), 3, 4),))
        for row in rows(50, 20, 30, seed=6):
            if len(row) >= 3:
                both = worth(bill, row) + worth(other, row)
                self.assertEqual(worth(added(bill, other), row), both)

    def test_what_is_passed_stays_as_it_was(self):
        told = ((50, (TERM,)), (1, (TERM,)))
        before = copied(told)
        self.refused(BadNumber, "value", told[1], added, *told)
        self.assertEqual(told, before)
