"""The papers on the TOP and on the EDGE: top_paper and check_top, edge_paper and check_edge."""

import random
from fractions import Fraction
from itertools import product

from bestoflast.bills import width
from bestoflast.errors import BadBill, BadPaper
from bestoflast.means import check_top, top, top_paper
from bestoflast.owns import check_edge, edge, edge_paper
from tests.helper import NO_INTEGERS, NO_TUPLES, Case
from tests.search import (
    BEST, MIDDLE, NO_BITS, NO_HEIGHTS, SIX, SIX_UP, SMALL, bills_by_chance, edge_by_words, own_of,
    told, top_by_words,
)

BILLS = (
    *SMALL, *MIDDLE, *SIX,
    *bills_by_chance(60, (1, 2, 3), seed=61), *bills_by_chance(6, (6,), seed=62),
)
NO_FRACTIONS = (
    *NO_TUPLES, (), (1,), (0,), (1, 1, 1), (0, 1, 0), [0, 1], "01", (2, 2), (0, 2), (0, 3), (2, 4),
    (-2, 2), (-6, 4), (6, 3), (1, 0), (0, 0), (-1, 0), (1, -1), (0, -1), (-1, -2), (3, -2),
    (10 ** 59, 10 ** 59), (0, 10 ** 59), (10 ** 59, -1),
    *[(thing, 1) for thing in NO_INTEGERS], *[(1, thing) for thing in NO_INTEGERS],
    *[(thing, thing) for thing in NO_INTEGERS],
)


def one_more(bill):
    """A bill beside, of which OWN is another one."""
    return own_of(bill, bill[0] + 1 if bill[0] < 50 else -50)


class Papers:
    """The tests of both papers, by the functions of one of them."""

    def taken(self, bill, paper):
        self.assertEqual(self.check(bill, paper), paper[0])

    def bad(self, part, bill, *paper):
        self.refused(BadPaper, "part", part, self.check, bill, paper)

    def judged(self, bill, *paper):
        """A paper is taken just if it is as the words tell, else the first part is told."""
        wrong = self.by_words(bill, *paper)
        if wrong is None:
            self.taken(bill, paper)
        else:
            self.bad(wrong, bill, *paper)
        return wrong

    def test_the_told_paper_is_taken(self):
        for bill in BILLS:
            paper = self.unchanged(self.paper, bill)
            self.assertEqual(len(paper), 4)
            self.assertIsNone(self.judged(bill, *paper), bill)
            self.assertEqual(paper[0], self.number(bill))

    def test_kinds_of_its_parts(self):
        for bill in BILLS:
            paper = self.paper(bill)
            self.assertIs(paper.__class__, tuple)
            for part in paper:
                self.assertIs(part.__class__, tuple)
                self.assertTrue(all(thing.__class__ is int for thing in part))
            self.assertEqual(len(paper[1]), 2 ** width(bill))
            self.assertEqual(len(paper[2]), width(bill))

    def test_called_by_name_and_twice(self):
        for bill in SMALL:
            paper = self.paper(bill=bill)
            self.assertEqual(paper, self.paper(bill))
            self.assertEqual(self.unchanged(self.check, bill, paper), paper[0])
            self.assertEqual(self.check(paper=paper, bill=bill), paper[0])

    def test_each_height_less_or_greater(self):
        found = []
        for bill in BILLS:
            fraction, heights, place, bits = self.paper(bill)
            for at in range(0, len(heights), 1 + len(heights) // 16):
                for more in (-1, 1, -heights[at] - 1):
                    other = heights[:at] + (heights[at] + more,) + heights[at + 1:]
                    found.append(self.judged(bill, fraction, other, place, bits))
        self.assertEqual({*found}, {"heights", None})

    def test_all_heights_greater(self):
        for bill in BILLS:
            fraction, heights, place, bits = self.paper(bill)
            for more in (1, 7, 10 ** 58):
                self.taken(bill, (fraction, tuple(height + more for height in heights), place, bits))
            self.bad("heights", bill, fraction, tuple(height - 10 ** 6 for height in heights), place, bits)

    def test_too_few_or_too_many_heights(self):
        for bill in BILLS:
            fraction, heights, place, bits = self.paper(bill)
            for wrong in ((), heights[1:], heights[:-1], heights + (0,), heights * 2, heights[:1] * 20000):
                self.bad("heights", bill, fraction, wrong, place, bits)

    def test_no_heights(self):
        for bill in ((1, ()), SIX_UP):
            fraction, heights, place, bits = self.paper(bill)
            for thing in (*NO_TUPLES, list(heights), 0):
                self.bad("heights", bill, fraction, thing, place, bits)
            for at in range(len(heights)):
                for thing in NO_HEIGHTS:
                    self.bad("heights", bill, fraction, heights[:at] + (thing,) + heights[at + 1:], place, bits)

    def test_the_ring_more_than_once(self):
        for bill in BILLS:
            fraction, heights, place, bits = self.paper(bill)
            for many in (2, 3, 10000 // len(bits)):
                self.taken(bill, (fraction, heights, place, bits * many))
            self.bad("ring", bill, fraction, heights, place, bits * (10000 // len(bits) + 1))

    def test_the_ring_from_another_place_on_it(self):
        for bill in BILLS:
            fraction, heights, place, bits = self.paper(bill)
            for at in range(1, len(bits)):
                other = (place + bits)[at:at + width(bill)]
                self.taken(bill, (fraction, heights, other, bits[at:] + bits[:at]))

    def test_a_bit_otherwise(self):
        found = []
        for bill in BILLS:
            fraction, heights, place, bits = self.paper(bill)
            for at in range(len(place)):
                other = place[:at] + (1 - place[at],) + place[at + 1:]
                found.append(self.judged(bill, fraction, heights, other, bits))
            for at in range(len(bits)):
                other = bits[:at] + (1 - bits[at],) + bits[at + 1:]
                found.append(self.judged(bill, fraction, heights, place, other))
                self.judged(bill, fraction, heights, place, bits[:at] + bits[at + 1:])
                self.judged(bill, fraction, heights, place, bits[:at] + bits[at:at + 1] * 2 + bits[at + 1:])
        self.assertIn("ring", found)

    def test_rings_by_chance(self):
        chance = random.Random(4)
        found = []
        for bill in SMALL:
            fraction, heights, _, _ = self.paper(bill)
            for _ in range(30):
                place = tuple(chance.randint(0, 1) for _ in range(width(bill)))
                bits = tuple(chance.randint(0, 1) for _ in range(chance.randint(0, 4)))
                found.append(self.judged(bill, fraction, heights, place, bits + place))
                self.judged(bill, fraction, heights, place, bits)
        self.assertGreater(found.count("ring"), 50)
        self.assertGreater(found.count(None), 20)

    def test_an_empty_ring(self):
        for bill in BILLS:
            fraction, heights, place, _ = self.paper(bill)
            self.bad("ring", bill, fraction, heights, place, ())

    def test_no_place_and_no_bits(self):
        for bill in ((1, ()), (0, ((BEST, -1, 1),)), SIX_UP):
            fraction, heights, place, bits = self.paper(bill)
            for thing in (*NO_TUPLES, (), (0, 1) * 4, list(place)):
                self.bad("ring", bill, fraction, heights, thing, bits)
            for thing in (*NO_TUPLES, list(bits)):
                self.bad("ring", bill, fraction, heights, place, thing)
            for thing in NO_BITS:
                for at in range(len(place)):
                    other = place[:at] + (thing,) + place[at + 1:]
                    self.bad("ring", bill, fraction, heights, other, bits)
                for at in range(len(bits) + width(bill)):
                    more = bits * (1 + width(bill))
                    self.bad("ring", bill, fraction, heights, place, more[:at] + (thing,) + more[at + 1:])

    def test_no_form(self):
        for bill in ((1, ()), SIX_UP):
            fraction, heights, place, bits = paper = self.paper(bill)
            wrong = (
                *NO_TUPLES, (), (fraction,), paper[:3], paper[1:], paper + ((),), paper + paper, list(paper),
                (fraction, heights, (place, bits)), ("bound", heights, place, bits), fraction,
            )
            for thing in wrong:
                self.refused(BadPaper, "part", "form", self.check, bill, thing)
            for thing in NO_FRACTIONS:
                self.bad("form", bill, thing, heights, place, bits)

    def test_a_common_divisor(self):
        for bill in BILLS:
            (part, of), heights, place, bits = self.paper(bill)
            for many in (2, 3, 5, -1, 10 ** 58):
                greater = tuple(height * abs(many) for height in heights)
                self.bad("form", bill, (part * many, of * many), greater, place, bits)

    def test_another_fraction(self):
        found = []
        for bill in BILLS:
            (part, of), heights, place, bits = self.paper(bill)
            for other in (told(Fraction(part + 1, of)), told(Fraction(part - 1, of)), told(Fraction(part, of + 1)),
                          (10 ** 59, 1), (-10 ** 59, 1), (1, 10 ** 59)):
                if other != (part, of):
                    found.append(self.judged(bill, other, heights, place, bits))
                    self.assertIsNotNone(found[-1])
                    # Greater heights do not help a fraction on the wrong side.
                    found.append(self.judged(bill, other, tuple(range(10 ** 9, 10 ** 9 + len(heights))), place, bits))
                    self.assertIsNotNone(found[-1])
        self.assertEqual({*found}, {"heights", "ring"})

    def test_the_first_part_that_is_wrong(self):
        for bill in (*SMALL, *SIX):
            fraction, heights, place, bits = self.paper(bill)
            self.bad("form", bill, (2, 2), (), (), ())
            self.bad("form", bill, None, None, None, None)
            self.bad("form", bill, (1, 0), heights, place, ())
            self.bad("heights", bill, fraction, (), (), ())
            self.bad("heights", bill, fraction, None, None, None)
            self.bad("heights", bill, fraction, heights[1:] + (-1,), place, ())
            self.bad("ring", bill, fraction, heights, None, None)
            self.bad("ring", bill, fraction, heights, place, None)

    def test_the_bill_is_told_first(self):
        for paper in (None, (), ((0, 1), (0, 0), (0,), (0,)), ((2, 2), 1, 2, 3)):
            self.refused(BadBill, "part", "form", self.check, None, paper)
            self.refused(BadBill, "part", "own", self.check, (51, ()), paper)
            self.refused(BadBill, "part", "terms", self.check, (0, []), paper)
            self.refused(BadBill, "part", 0, self.check, paper=paper, bill=(0, (None,)))

    def test_no_bill_for_a_paper(self):
        for thing in (*NO_TUPLES, (), (1,), (1, (), ())):
            self.refused(BadBill, "part", "form", self.paper, thing)
        self.refused(BadBill, "part", "own", self.paper, (51, ()))
        self.refused(BadBill, "part", "terms", self.paper, (1, None))
        self.refused(BadBill, "part", 1, self.paper, bill=(1, ((BEST, 0, 0), (BEST, 51, 0))))

    def test_lists_stay_as_they_were(self):
        listed = [[0, 1], [0, 0], [0], [0]]
        self.refused(BadPaper, "part", "form", self.check, (0, ()), listed)
        self.refused(BadPaper, "part", "form", self.check, (0, ()), tuple(listed))
        self.refused(BadPaper, "part", "heights", self.check, (0, ()), ((0, 1), *listed[1:]))
        self.assertEqual(listed, [[0, 1], [0, 0], [0], [0]])


class TopPaper(Papers, Case):

    paper, check, number = staticmethod(top_paper), staticmethod(check_top), staticmethod(top)
    by_words = staticmethod(top_by_words)

    def test_by_hand(self):
        self.taken((1, ()), ((1, 1), (0, 0), (1,), (1,)))
        self.taken((1, ()), ((1, 1), (1, 0), (1,), (1, 1)))
        self.bad("heights", (1, ()), (1, 1), (0, 1), (1,), (1,))
        self.bad("heights", (1, ()), (1, 1), (2, 0), (1,), (1,))
        self.bad("heights", (1, ()), (0, 1), (0, 0), (1,), (1,))
        self.bad("heights", (1, ()), (1, 2), (0, 0), (1,), (1, 0))
        self.bad("ring", (1, ()), (2, 1), (0, 0), (1,), (1,))
        self.bad("ring", (1, ()), (1, 1), (0, 0), (0,), (1, 0))
        self.taken((-1, ()), ((0, 1), (0, 0), (0,), (0,)))
        # 2 for each change, less 1 for each 1.
        bill = (-1, (((-2, 2), 0, 1),))
        self.taken(bill, ((3, 2), (0, 1, 0, 1), (0, 1), (0, 1)))
        self.taken(bill, ((3, 2), (2, 1, 0, 1), (1, 0), (1, 0)))
        self.bad("heights", bill, (3, 2), (0, 0, 0, 1), (0, 1), (0, 1))
        self.bad("heights", bill, (3, 2), (0, 1, 2, 1), (0, 1), (0, 1))
        self.bad("ring", bill, (3, 2), (0, 1, 0, 1), (1, 0), (0, 1))

    def test_another_own(self):
        for bill in BILLS:
            fraction, heights, place, bits = self.paper(bill)
            for other in (one_more(bill), own_of(bill, 50), own_of(bill, -50)):
                self.judged(other, fraction, heights, place, bits)


class EdgePaper(Papers, Case):

    paper, check, number = staticmethod(edge_paper), staticmethod(check_edge), staticmethod(edge)
    by_words = staticmethod(edge_by_words)

    def test_by_hand(self):
        self.taken((1, ()), ((0, 1), (0, 0), (1,), (1,)))
        self.taken((1, ()), ((0, 1), (7, 7), (0,), (1, 0)))
        self.bad("heights", (1, ()), (1, 1), (0, 0), (1,), (1,))
        self.bad("ring", (1, ()), (-1, 1), (0, 0), (1,), (1,))
        self.bad("ring", (1, ()), (-1, 1), (0, 0), (0,), (0,))
        # 1 for each change: 2 for each 1 that stands alone.
        bill = (50, (((-1, 1), 0, 1),))
        self.taken(bill, ((-2, 1), (0, 1, 0, 1), (0, 1), (0, 1)))
        self.taken(bill, ((-2, 1), (0, 1, 0, 3), (0, 0), (1, 0, 0)))
        self.bad("heights", bill, (-2, 1), (0, 1, 0, 4), (0, 1), (0, 1))
        self.bad("heights", bill, (-2, 1), (1, 1, 0, 1), (0, 1), (0, 1))
        self.bad("heights", bill, (-1, 1), (0, 1, 0, 1), (0, 1), (0, 1))
        self.bad("ring", bill, (-2, 1), (0, 1, 0, 1), (1, 1), (1,))
        self.bad("ring", bill, (-3, 1), (0, 1, 0, 1), (0, 1), (0, 1))

    def test_a_ring_without_a_1(self):
        for bill in BILLS:
            fraction, heights, place, _ = self.paper(bill)
            zeros = (0,) * width(bill)
            for many in (1, 2, 10000):
                self.bad("ring", bill, fraction, heights, zeros, (0,) * many)
            # Not even where the TERMS pay nothing at all.
            self.bad("ring", own_of(bill, 0), fraction, heights, zeros, zeros)

    def test_another_own(self):
        for bill in BILLS:
            paper = self.paper(bill)
            for own in (-50, -1, 0, 1, 50):
                self.assertEqual(self.paper(own_of(bill, own)), paper)
                self.taken(own_of(bill, own), paper)

    def test_other_terms(self):
        found = []
        for one, other in product(SMALL, repeat=2):
            if width(one) == width(other):
                found.append(self.judged(other, *self.paper(one)))
        self.assertEqual({*found}, {None, "heights", "ring"})
