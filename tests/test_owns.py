"""How much a result has to count: edge, fair, fair_rows."""

from fractions import Fraction
from itertools import product

from bestoflast.bills import width, worth
from bestoflast.bounds import is_bounded
from bestoflast.errors import BadBill
from bestoflast.owns import edge, edge_paper, fair, fair_rows
from bestoflast.worse import does_pay, gain, greatest_gain
from tests.helper import NO_INTEGERS, NO_TUPLES, Case
from tests.search import (
    BEST, BEST_OF_SIX, LEAST_OF_SIX, MIDDLE, SIX, SIX_UP, SMALL, bills_by_chance, own_of, paid,
    place_steps, rings_of, told,
)

BILLS = (*SMALL, *MIDDLE, *bills_by_chance(80, (1, 2, 3), seed=71))
NARROW = [bill for bill in BILLS if width(bill) <= 3]
WIDE = (*SIX, *bills_by_chance(12, (6,), seed=72))
OWNS = (-50, -49, -3, -1, 0, 1, 2, 49, 50)
BY_HAND = (
    # The bill, its edge, its fair, and how many bits its fair rows have.
    ((0, ()), (0, 1), 0, 2),
    ((50, ()), (0, 1), 0, 2),
    ((0, (((1,), -1, 1),)), (0, 1), -1, 2),
    ((0, (((1,), 1, 0),)), (-1, 1), -1, 3),
    ((0, (((1,), 0, 1),)), (-1, 1), -1, 2),
    ((0, (((1,), -1, 0),)), (1, 1), 0, 2),
    ((0, (((1,), 2, -1),)), (-1, 1), -1, 3),
    ((0, (((1,), -3, 2),)), (1, 1), -2, 2),
    # The greater of the last two less the lesser: 2 for each 1 that stands alone.
    ((0, (((-1, 1), 0, 1),)), (-2, 1), -2, 4),
    # A 1 between two ones brings nothing, in place of 2 that are taken.
    ((0, (((-1, 1), 0, -1),)), (0, 1), -2, 4),
    # A 1 is among the last three three times: (0, 0, 1) pays 1 each time, and (0, 1, 1) as much.
    ((0, (((0, 0, 1), 0, 1),)), (-3, 1), -3, 6),
    # The middle one of three: a 1 is worth most between those that stand in twos.
    ((0, (((0, 1, 0), 0, 1),)), (-3, 2), -3, 6),
    # The least one of three: three ones in a row pay 1, and each further one as much.
    ((0, (((1, 0, 0), 0, 1),)), (-1, 1), -3, 6),
    ((0, ((BEST_OF_SIX, 0, 1), (LEAST_OF_SIX, 0, 0))), (-6, 1), -6, 12),
    (SIX_UP, (0, 1), -2, 7),
)


def unlike(row, worse):
    """The numbers of the bits by which two rows are unlike."""
    return [at for at, (one, other) in enumerate(zip(row, worse)) if one != other]


def edge_by_search(bill):
    """The edge, by all rings without a place twice that have a 1 in them."""
    found = []
    for _, bits, pays in rings_of(place_steps(own_of(bill, 0))):
        if 1 in bits:
            found.append(Fraction(-sum(pays), sum(bits)))
    return min(found)


def fair_by_search(bill):
    """The fair, and the fewest bits of its rows, by all pairs of rows that one bit makes worse."""
    wide, table = width(bill), paid(own_of(bill, 0))
    best = None
    for length in range(wide + 1, 2 * wide + 2):
        for bits in product((0, 1), repeat=length - 1):
            row, worse = (bits[:wide] + (bit,) + bits[wide:] for bit in (0, 1))
            more = sum(
                table[worse[at - wide:at + 1]] - table[row[at - wide:at + 1]]
                for at in range(wide, length)
            )
            if best is None or more > best[0]:
                best = (more, length)
    return -best[0], best[1]


class Edge(Case):

    def test_by_hand(self):
        for bill, wanted, _, _ in BY_HAND:
            self.assertEqual(self.unchanged(edge, bill), wanted, bill)

    def test_against_all_rings(self):
        for bill in NARROW:
            self.assertEqual(edge(bill), told(edge_by_search(bill)), bill)

    def test_it_does_not_hang_on_own(self):
        for bill in (*BILLS, *WIDE):
            for own in OWNS:
                self.assertEqual(edge(own_of(bill, own)), edge(bill))

    def test_bounded_exactly_if_own_is_at_most_the_edge(self):
        found = []
        for bill in (*BILLS, *WIDE):
            part, of = edge(bill)
            for own in {*OWNS, bill[0], part // of, part // of + 1}:
                if -50 <= own <= 50:
                    found.append(is_bounded(own_of(bill, own)))
                    self.assertEqual(found[-1], own * of <= part, (own, bill))
        self.assertGreater(found.count(True), 100)
        self.assertGreater(found.count(False), 100)

    def test_without_a_common_divisor(self):
        edges = [edge(bill) for bill in (*BILLS, *WIDE)]
        self.assertTrue(any(of > 1 for _, of in edges))
        for part, of in edges:
            self.assertEqual(told(Fraction(part, of)), (part, of))
            self.assertEqual([part.__class__, of.__class__], [int, int])

    def test_it_is_that_of_its_paper(self):
        for bill in (*BILLS, *WIDE):
            self.assertEqual(edge(bill=bill), edge_paper(bill)[0])


class Fair(Case):

    def test_by_hand(self):
        for bill, _, wanted, many in BY_HAND:
            self.assertEqual(self.unchanged(fair, bill), wanted, bill)
            self.assertEqual([len(row) for row in fair_rows(bill)], [many, many], bill)

    def test_against_all_rows(self):
        for bill in NARROW:
            wanted, many = fair_by_search(bill)
            self.assertEqual(fair(bill), wanted, bill)
            self.assertEqual(len(fair_rows(bill)[0]), many, bill)

    def test_six_weights_against_all_rows(self):
        for bill in (SIX[0], SIX[3], SIX[5], WIDE[-1]):
            wanted, many = fair_by_search(bill)
            self.assertEqual((fair(bill), len(fair_rows(bill)[0])), (wanted, many))

    def test_it_does_not_hang_on_own(self):
        for bill in (*BILLS, *WIDE):
            for own in OWNS:
                self.assertEqual(fair(own_of(bill, own)), fair(bill))
                self.assertEqual(fair_rows(own_of(bill, own)), fair_rows(bill))

    def test_a_worse_one_never_pays_exactly_if_own_is_at_most_the_fair(self):
        found = []
        for bill in (*BILLS, *WIDE):
            for own in {*OWNS, bill[0], fair(bill), fair(bill) + 1}:
                if -50 <= own <= 50:
                    found.append(does_pay(own_of(bill, own), "any"))
                    self.assertEqual(found[-1], own > fair(bill), (own, bill))
                    self.assertEqual(does_pay(own_of(bill, own), "once"), found[-1])
                    self.assertEqual(greatest_gain(own_of(bill, own), "any") == 0, own <= fair(bill))
        self.assertGreater(found.count(True), 100)
        self.assertGreater(found.count(False), 100)

    def test_it_is_no_greater_than_the_edge(self):
        for bill in (*BILLS, *WIDE):
            self.assertIs(fair(bill).__class__, int)
            self.assertLessEqual(fair(bill), Fraction(*edge(bill)))

    def test_by_name(self):
        self.assertEqual(fair(bill=SIX_UP), -2)
        self.assertEqual(fair_rows(bill=(0, ())), fair_rows((0, ())))


class FairRows(Case):

    def test_by_hand(self):
        row, worse = fair_rows((0, (((1,), 0, 1),)))
        self.assertEqual((row[1:], worse[1:]), ((0,), (1,)))
        row, worse = fair_rows((0, (((-1, 1), 0, -1),)))
        self.assertEqual((row[1:], worse[1:]), ((1, 0, 1), (1, 1, 1)))

    def test_they_tell_the_fair(self):
        for bill in (*BILLS, *WIDE):
            row, worse = self.unchanged(fair_rows, bill)
            self.assertEqual([worse[at] - row[at] for at in unlike(row, worse)], [1])
            # A worse row is the same in its first WIDTH bits.
            self.assertGreaterEqual(unlike(row, worse)[0], width(bill))
            terms = own_of(bill, 0)
            self.assertEqual(gain(terms, row, worse), -fair(bill))
            self.assertEqual(worth(terms, worse) - worth(terms, row), -fair(bill))

    def test_as_short_as_can_be(self):
        for bill in (*BILLS, *WIDE):
            row, _ = fair_rows(bill)
            self.assertLessEqual(width(bill) + 1, len(row))
            self.assertLessEqual(len(row), 2 * width(bill) + 1)

    def test_kinds(self):
        for bill in (*BILLS, *WIDE):
            rows = fair_rows(bill)
            self.assertIs(rows.__class__, tuple)
            self.assertEqual([row.__class__ for row in rows], [tuple, tuple])
            self.assertTrue(all(bit.__class__ is int and bit in (0, 1) for row in rows for bit in row))

    def test_no_bill(self):
        for call in (edge, fair, fair_rows):
            for thing in (*NO_TUPLES, (), (1,), (1, (), ())):
                self.refused(BadBill, "part", "form", call, thing)
            for thing in (*NO_INTEGERS, 51, -51):
                self.refused(BadBill, "part", "own", call, (thing, ()))
            self.refused(BadBill, "part", "terms", call, (1, None))
            self.refused(BadBill, "part", 1, call, bill=(1, ((BEST, 0, 0), (BEST, 51, 0))))
