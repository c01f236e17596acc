"""The paper on whether there is a GREATEST GAIN of the kind "any": worse_paper and check_worse."""

import random
from itertools import product

from bestoflast.bills import width, worth
from bestoflast.errors import BadBill, BadPaper
from bestoflast.worse import check_worse, greatest_gain, worse_paper
from tests.helper import NO_INTEGERS, NO_TUPLES, Case
from tests.search import (
    BEST, NO_BITS, NO_FORMS, NO_HEIGHTS, PAIRS, SIX, SIX_UP, SMALL, bills_by_chance,
    worse_bound_by_words, worse_ring_by_words,
)

BILLS = (*SMALL, *SIX, *bills_by_chance(30, (1, 2, 3), seed=31))
STEP = (0, (((1,), -3, 2),))
WIDE_STEP = (0, (((1,), -3, 2), ((0, 0), 0, 0)))
OWN = (1, ())
WIDE_OWN = (1, ((BEST, 0, 0),))
NO_PAIRS = (
    *NO_INTEGERS, *NO_TUPLES, 0, 1, (), (0,), (1,), (0, 1, 1), (0, 0, 0), (1, 0), (2, 2), (0, 2),
    (-1, 0), (-1, -1), [0, 1], ((0, 1),), ((0, 1), (0, 1)), (0, True), (False, 1), (True, True), (True, 1),
    (1, True), (False, 0), (0, False), (False, False), (False, True), (True, 0), (None, None), ("0", "1"), (0, 10 ** 59),
)


def couples(bill):
    """All couples of a bill, ascending."""
    return list(product(PAIRS, repeat=width(bill)))


class Papers(Case):

    def taken(self, bill, paper):
        self.assertEqual(check_worse(bill, paper), paper[0])

    def bad(self, part, bill, *paper):
        self.refused(BadPaper, "part", part, check_worse, bill, paper)

    def judged(self, bill, paper):
        """A paper is taken just if it is as the words tell."""
        by_words = worse_bound_by_words if paper[0] == "bound" else worse_ring_by_words
        if by_words(bill, *paper[1:]):
            self.taken(bill, paper)
            return True
        self.bad(paper[0], bill, *paper)
        return False

    def bounds(self, bills):
        """The bills with a paper "bound", each with this."""
        papers = [(bill, worse_paper(bill)) for bill in bills]
        return [(bill, paper) for bill, paper in papers if paper[0] == "bound"]

    def rings(self, bills):
        """The bills with a paper "ring", each with this."""
        papers = [(bill, worse_paper(bill)) for bill in bills]
        return [(bill, paper) for bill, paper in papers if paper[0] == "ring"]


class Told(Papers):

    def test_the_told_paper_is_taken(self):
        for bill in BILLS:
            paper = worse_paper(bill)
            self.assertIs(paper.__class__, tuple)
            self.assertEqual(len(paper), 4 if paper[0] == "bound" else 3)
            self.assertTrue(self.judged(bill, paper), bill)
            self.assertEqual(paper[0] == "bound", greatest_gain(bill, "any") is not None)

    def test_kinds_of_its_parts(self):
        for bill, (word, *parts) in self.bounds(BILLS):
            self.assertIs(word.__class__, str)
            for part in parts:
                self.assertIs(part.__class__, tuple)
                self.assertTrue(all(thing.__class__ is int for thing in part))
        for bill, (word, *parts) in self.rings(BILLS):
            self.assertIs(word.__class__, str)
            for part in parts:
                self.assertIs(part.__class__, tuple)
                self.assertTrue(all(pair.__class__ is tuple and pair in PAIRS for pair in part))
                self.assertTrue(all(bit.__class__ is int for pair in part for bit in pair))

    def test_it_goes_along_with_the_greatest_gain(self):
        for bill, (_, heights, row, worse) in self.bounds(BILLS):
            like = [height for couple, height in zip(couples(bill), heights) if (0, 1) not in couple]
            self.assertEqual(max(like), greatest_gain(bill, "any"))
            self.assertEqual(len(heights), len(couples(bill)))
            if len(row) <= 200:
                self.assertEqual(worth(bill, worse) - worth(bill, row), greatest_gain(bill, "any"))

    def test_by_hand(self):
        self.taken((0, ()), ("bound", (0, 0, 0), (0,), (0,)))
        self.taken((0, ()), ("bound", (0, 0, 0), (1, 0, 1), (1, 1, 1)))
        self.taken((-1, ()), ("bound", (0, 0, 0), (0, 1), (0, 1)))
        self.taken(STEP, ("bound", (2, 0, 2), (0, 0), (0, 1)))
        self.taken(STEP, ("bound", (2, 0, 2), (1, 1, 0, 0), (1, 1, 0, 1)))
        self.taken(OWN, ("ring", ((0, 1),), ((0, 1),)))
        self.taken(OWN, ("ring", ((0, 0),), ((0, 1), (0, 0))))
        self.taken(OWN, ("ring", ((1, 1),), ((0, 1), (1, 1))))
        self.taken((0, (((-1, 1), 0, -1),)), ("ring", ((0, 1), (1, 1)), ((0, 1), (1, 1))))

    def test_a_height_of_a_couple_with_unlike_pairs_may_be_the_greatest(self):
        # What has been paid at once is got back: behind (0, 1) there is more to come than ahead.
        bill = (0, (((1,), 1, -1),))
        self.assertEqual(worse_paper(bill), ("bound", (0, 1, 0), (0,), (0,)))
        self.taken(bill, ("bound", (0, 1, 0), (0,), (0,)))
        self.bad("bound", bill, "bound", (1, 1, 1), (0,), (0,))
        self.bad("bound", bill, "bound", (0, 0, 0), (0,), (0,))

    def test_told_by_name_and_twice(self):
        for bill in SMALL:
            paper = self.unchanged(worse_paper, bill)
            self.assertEqual(self.unchanged(check_worse, bill, paper), paper[0])
            self.assertEqual(worse_paper(bill=bill), paper)
            self.assertEqual(check_worse(paper=paper, bill=bill), paper[0])


class Bounds(Papers):

    def test_each_height_less(self):
        for bill, (word, heights, row, worse) in self.bounds(BILLS):
            for at in range(0, len(heights), 1 + len(heights) // 30):
                less = heights[:at] + (heights[at] - 1,) + heights[at + 1:]
                self.assertFalse(self.judged(bill, (word, less, row, worse)), bill)

    def test_each_height_greater(self):
        found = []
        for bill, (word, heights, row, worse) in self.bounds(BILLS):
            for at in range(0, len(heights), 1 + len(heights) // 30):
                more = heights[:at] + (heights[at] + 1,) + heights[at + 1:]
                found.append(self.judged(bill, (word, more, row, worse)))
        self.assertIn(True, found)
        self.assertIn(False, found)

    def test_greater_heights_that_still_hold(self):
        # A 1 costs more than the one behind it can pay back.
        bill = (-1, (((1,), 1, -1),))
        self.assertEqual(worse_paper(bill)[1], (0, 1, 0))
        for height in (1, 2):
            self.taken(bill, ("bound", (0, height, 0), (0,), (0,)))
        for height in (0, 3):
            self.bad("bound", bill, "bound", (0, height, 0), (0,), (0,))

    def test_all_heights_greater(self):
        for bill, (word, heights, row, worse) in self.bounds(BILLS):
            for more in (1, 10 ** 58):
                self.bad(word, bill, word, tuple(height + more for height in heights), row, worse)

    def test_too_few_or_too_many_heights(self):
        for bill, (word, heights, row, worse) in self.bounds((*SMALL, *SIX)):
            fewer = 2 ** width(bill)
            for wrong in ((), heights[:-1], heights[1:], heights + (0,), heights * 3, heights[:fewer]):
                self.bad(word, bill, word, wrong, row, worse)

    def test_no_heights(self):
        for thing in NO_TUPLES:
            self.bad("bound", (0, ()), "bound", thing, (0,), (0,))
        self.bad("bound", (0, ()), "bound", [0, 0, 0], (0,), (0,))

    def test_no_height_at_each_place(self):
        for bill in ((0, ()), (-1, ()), STEP, WIDE_STEP):
            word, heights, row, worse = worse_paper(bill)
            for at in range(len(heights)):
                for thing in NO_HEIGHTS:
                    wrong = heights[:at] + (thing,) + heights[at + 1:]
                    self.bad(word, bill, word, wrong, row, worse)

    def test_no_rows(self):
        for thing in NO_TUPLES:
            self.bad("bound", (0, ()), "bound", (0, 0, 0), thing, (0,))
            self.bad("bound", (0, ()), "bound", (0, 0, 0), (0,), thing)
            self.bad("bound", (0, ()), "bound", (0, 0, 0), thing, thing)
        self.bad("bound", (0, ()), "bound", (0, 0, 0), [0], [0])

    def test_no_bit_at_each_place(self):
        for bill in (STEP, (0, ((BEST, -1, 1),)), SIX_UP):
            word, heights, row, worse = worse_paper(bill)
            for at in range(len(row)):
                for thing in NO_BITS:
                    one = row[:at] + (thing,) + row[at + 1:]
                    two = worse[:at] + (thing,) + worse[at + 1:]
                    self.bad(word, bill, word, heights, one, worse)
                    self.bad(word, bill, word, heights, row, two)
                    self.bad(word, bill, word, heights, one, two)

    def test_true_and_false_beside_a_bit(self):
        # Of these, Python would say that the one is no less than the other one.
        for one, other in ((True, 1), (1, True), (False, 1), (0, True), (False, 0), (0, False)):
            for ahead in ((0,), (1,), (0, 1)):
                self.bad("bound", (0, ()), "bound", (0, 0, 0), ahead + (one,), ahead + (other,))
                self.bad("bound", (0, ()), "bound", (0, 0, 0), (one,) + ahead, (other,) + ahead)

    def test_row_and_worse_exchanged(self):
        for bill, (word, heights, row, worse) in self.bounds(BILLS):
            if row != worse:
                self.bad(word, bill, word, heights, worse, row)
        self.bad("bound", (-1, ()), "bound", (0, 0, 0), (0, 1), (0, 0))
        self.bad("bound", (0, ()), "bound", (0, 0, 0), (0, 1), (0, 0))

    def test_each_bit_otherwise(self):
        for bill, (word, heights, row, worse) in self.bounds(BILLS):
            for at in range(len(row)):
                one = row[:at] + (1 - row[at],) + row[at + 1:]
                two = worse[:at] + (1 - worse[at],) + worse[at + 1:]
                for pair in ((one, worse), (row, two), (one, two)):
                    self.judged(bill, (word, heights, *pair))

    def test_rows_that_are_not_the_same_ahead(self):
        self.bad("bound", (0, ()), "bound", (0, 0, 0), (0,), (1,))
        self.bad("bound", (0, ()), "bound", (0, 0, 0), (0, 1), (1, 1))
        self.taken((0, ()), ("bound", (0, 0, 0), (1, 0), (1, 1)))
        for at in range(6):
            word, heights, row, worse = worse_paper((-2, SIX_UP[1]))
            other = worse[:at] + (1 - worse[at],) + worse[at + 1:]
            self.bad(word, (-2, SIX_UP[1]), word, heights, row, other)

    def test_rows_that_are_not_as_long(self):
        for bill, (word, heights, row, worse) in self.bounds((*SMALL, *SIX)):
            for wrong in (worse[:-1], worse + (0,), worse + (1,), worse * 2, ()):
                self.bad(word, bill, word, heights, row, wrong)
            for wrong in (row[:-1], row + (0,), row + (1,), row * 2, ()):
                self.bad(word, bill, word, heights, wrong, worse)

    def test_rows_of_a_bit_less_than_width(self):
        for bill, (word, heights, _, _) in self.bounds((*SMALL, *SIX)):
            for fewer in range(width(bill)):
                self.bad(word, bill, word, heights, (0,) * fewer, (0,) * fewer)

    def test_longer_rows_that_still_hold(self):
        self.taken(STEP, ("bound", (2, 0, 2), (0, 1, 0), (0, 1, 1)))
        self.taken(STEP, ("bound", (2, 0, 2), (0,) * 10000, (0,) * 9999 + (1,)))
        self.bad("bound", STEP, "bound", (2, 0, 2), (0,) * 10001, (0,) * 10000 + (1,))
        self.bad("bound", STEP, "bound", (2, 0, 2), (0,) * 10000, (0,) * 9998 + (1, 1))
        word, heights, _, _ = worse_paper(SIX_UP)
        top = (0,) * 6 + (1,) * 9994
        self.taken(SIX_UP, (word, heights, (0,) * 10000, top))
        self.bad(word, SIX_UP, word, heights, (0,) * 10001, top + (1,))
        self.bad(word, SIX_UP, word, heights, (0,) * 9999 + (1,), top)

    def test_rows_of_too_small_a_gain(self):
        for bill, (word, heights, row, worse) in self.bounds((*SMALL, *SIX)):
            if row != worse:
                self.bad(word, bill, word, heights, row, row)
                self.bad(word, bill, word, heights, worse, worse)
                self.bad(word, bill, word, heights, row[:width(bill)], row[:width(bill)])

    def test_couples_stand_ascending(self):
        word, heights, row, worse = worse_paper(WIDE_STEP)
        self.assertEqual(heights, (2, 0, 2, 2, 0, 2, 2, 0, 2))
        self.bad(word, WIDE_STEP, word, (2, 2, 2, 0, 0, 0, 2, 2, 2), row, worse)
        self.bad(word, WIDE_STEP, word, heights[1:] + heights[:1], row, worse)

    def test_a_bound_for_a_bill_without(self):
        self.bad("bound", OWN, "bound", (0, 0, 0), (0,), (0,))
        self.bad("bound", OWN, "bound", (1, 1, 1), (0, 0), (0, 1))
        self.bad("bound", OWN, "bound", (9999,) * 3, (0,) * 10000, (0,) + (1,) * 9999)


class Rings(Papers):

    def test_by_chance(self):
        chance = random.Random(6)
        found = []
        for bill in SMALL:
            for _ in range(30):
                couple = tuple(chance.choice(PAIRS) for _ in range(width(bill)))
                ring = tuple(chance.choice(PAIRS) for _ in range(chance.randint(1, 4)))
                found.append(self.judged(bill, ("ring", couple, ring)))
                found.append(self.judged(bill, ("ring", couple, ring + couple)))
        self.assertGreater(found.count(True), 20)
        self.assertGreater(found.count(False), 20)

    def test_an_empty_ring(self):
        for bill in (*SMALL, *SIX):
            self.bad("ring", bill, "ring", ((0, 1),) * width(bill), ())

    def test_a_ring_that_pays_nothing_more(self):
        self.bad("ring", (0, ()), "ring", ((0, 1),), ((0, 1),))
        self.bad("ring", (-1, ()), "ring", ((0, 1),), ((0, 1),))
        # Both rows are paid, and the same: it is what the worse one is paid more that counts.
        self.bad("ring", OWN, "ring", ((1, 1),), ((1, 1),))
        self.bad("ring", OWN, "ring", ((0, 0),), ((0, 0),))
        self.bad("ring", (0, (((1,), -1, 1),)), "ring", ((0, 0),), ((0, 1), (0, 0)))
        for couple in ((pair,) * 6 for pair in PAIRS):
            self.bad("ring", SIX_UP, "ring", couple, couple)

    def test_a_ring_that_does_not_lead_back(self):
        self.bad("ring", OWN, "ring", ((0, 0),), ((0, 1),))
        self.bad("ring", OWN, "ring", ((1, 1),), ((0, 1),))
        self.bad("ring", OWN, "ring", ((0, 1),), ((0, 1), (1, 1)))
        couple = ((0, 0), (0, 1), (1, 1))
        self.bad("ring", WIDE_OWN, "ring", couple, ((0, 1),) * 3)
        self.bad("ring", WIDE_OWN, "ring", couple, couple[:2])
        self.taken(WIDE_OWN, ("ring", couple, couple))
        self.taken(WIDE_OWN, ("ring", couple, ((0, 1),) * 4 + couple))
        self.taken(WIDE_OWN, ("ring", ((0, 1),) * 3, ((0, 1),)))

    def test_around_more_than_once(self):
        for bill, (word, couple, ring) in self.rings(BILLS):
            for many in (2, 3, 10000 // len(ring)):
                self.taken(bill, (word, couple, ring * many))
            self.bad(word, bill, word, couple, ring * (10000 // len(ring) + 1))

    def test_the_longest_rings(self):
        self.taken(OWN, ("ring", ((0, 1),), ((0, 1),) * 10000))
        self.taken(OWN, ("ring", ((1, 1),), ((0, 1),) + ((1, 1),) * 9999))
        self.bad("ring", OWN, "ring", ((0, 1),), ((0, 1),) * 10001)
        self.bad("ring", OWN, "ring", ((1, 1),), ((0, 1),) + ((1, 1),) * 10000)
        self.bad("ring", OWN, "ring", ((1, 1),), ((1, 1),) * 10000)

    def test_the_pair_of_1_and_0(self):
        # By (1, 0) the other row is the worse one: what costs a 1 would pay here.
        for bill in ((-1, ()), (-1, ((BEST, 0, 0),)), (1, ()), (0, ())):
            wide = width(bill)
            self.bad("ring", bill, "ring", ((1, 0),) * wide, ((1, 0),))
            self.bad("ring", bill, "ring", ((0, 0),) * wide, ((1, 0),) + ((0, 0),) * wide)
        for at in range(3):
            ring = ((0, 1),) * at + ((1, 0),) + ((0, 1),) * (2 - at)
            self.bad("ring", OWN, "ring", ((0, 1),), ring + ((0, 1),))
            self.bad("ring", WIDE_OWN, "ring", ring, ring)

    def test_no_couple(self):
        for thing in (*NO_TUPLES, (), (0,), (0, 1), ((0, 1),) * 2, ((0, 1),) * 4, [(0, 1)] * 3):
            self.bad("ring", WIDE_OWN, "ring", thing, ((0, 1),))
        for at in range(3):
            for thing in NO_PAIRS:
                couple = ((0, 1),) * at + (thing,) + ((0, 1),) * (2 - at)
                self.bad("ring", WIDE_OWN, "ring", couple, ((0, 1),))

    def test_no_ring(self):
        for thing in NO_TUPLES:
            self.bad("ring", OWN, "ring", ((0, 1),), thing)
        for at in range(3):
            for thing in NO_PAIRS:
                ring = ((0, 1),) * at + (thing,) + ((0, 1),) * (2 - at)
                self.bad("ring", OWN, "ring", ((0, 1),), ring)

    def test_another_pair(self):
        for bill, (word, couple, ring) in self.rings(BILLS):
            for pair in (*PAIRS, (1, 0)):
                for at in range(len(couple)):
                    self.judged(bill, (word, couple[:at] + (pair,) + couple[at + 1:], ring))
                for at in range(len(ring)):
                    self.judged(bill, (word, couple, ring[:at] + (pair,) + ring[at + 1:]))

    def test_a_ring_for_a_bill_with_a_bound(self):
        for bill, (_, heights, row, worse) in self.bounds((*SMALL, *SIX)):
            for pair in PAIRS:
                self.bad("ring", bill, "ring", (pair,) * width(bill), (pair,))


class Forms(Papers):

    def test_no_form(self):
        for bill in ((0, ()), OWN, SIX_UP):
            for thing in NO_FORMS:
                self.refused(BadPaper, "part", "form", check_worse, bill, thing)
            self.bad("form", bill, "bound", (0, 0, 0), (0,))
            self.bad("form", bill, "ring", ((0, 1),), ((0, 1),), ((0, 1),))

    def test_the_word_tells_what_is_looked_at(self):
        self.bad("ring", (0, ()), "ring", (0, 0, 0), (0,))
        self.bad("bound", OWN, "bound", ((0, 1),), ((0, 1),), ((0, 1),))
        self.bad("bound", (0, ()), "bound", None, None, None)
        self.bad("ring", (0, ()), "ring", None, None)

    def test_the_bill_is_told_first(self):
        for paper in (None, (), ("bound", (0, 0, 0), (0,), (0,)), ("ring", (1,), ()), ("bound", 1, 2)):
            self.refused(BadBill, "part", "form", check_worse, None, paper)
            self.refused(BadBill, "part", "own", check_worse, (51, ()), paper)
            self.refused(BadBill, "part", "terms", check_worse, (0, []), paper)
            self.refused(BadBill, "part", 0, check_worse, paper=paper, bill=(0, (None,)))

    def test_no_bill_for_a_paper(self):
        for thing in (*NO_TUPLES, (), (1,), (1, (), ())):
            self.refused(BadBill, "part", "form", worse_paper, thing)
        self.refused(BadBill, "part", "own", worse_paper, (51, ()))
        self.refused(BadBill, "part", "terms", worse_paper, (1, None))
        self.refused(BadBill, "part", 1, worse_paper, bill=(1, ((BEST, 0, 0), (BEST, 51, 0))))

    def test_lists_stay_as_they_were(self):
        told = ["bound", [0, 0, 0], [0], [0]]
        self.refused(BadPaper, "part", "form", check_worse, (0, ()), told)
        self.refused(BadPaper, "part", "bound", check_worse, (0, ()), tuple(told))
        self.assertEqual(told, ["bound", [0, 0, 0], [0], [0]])


class Long(Papers):

    def test_papers_of_10000_bits(self):
        self.assertEqual(check_worse((1, ()), ("ring", ((0, 1),), ((0, 1),) * 10000)), "ring")
        self.assertEqual(check_worse((-1, ()), ("bound", (0, 0, 0), (0,) * 10000, (0,) * 10000)), "bound")

    def test_a_part_otherwise(self):
        zeros, pairs = (0,) * 10000, ((0, 1),) * 10000
        for at in (0, 1, 2, 5000, 9998, 9999):
            one = zeros[:at] + (1,) + zeros[at + 1:]
            self.bad("bound", (-1, ()), "bound", (0, 0, 0), zeros, one)
            self.bad("bound", (-1, ()), "bound", (0, 0, 0), one, zeros)
            self.taken((-1, ()), ("bound", (0, 0, 0), one, one))
            for pair in ((0, 0), (1, 1), (1, 0)):
                other = pairs[:at] + (pair,) + pairs[at + 1:]
                self.assertEqual(self.judged((1, ()), ("ring", ((0, 1),), other)), pair != (1, 0) and at != 9999)
                self.assertFalse(self.judged((-1, ()), ("ring", ((0, 1),), other)))
        for heights in ((0, 0, 1), (0, 1, 0), (1, 1, 1), (0, 0, -1), (0, 0), (0, 0, 0, 0)):
            self.judged((-1, ()), ("bound", heights, zeros, zeros))
        self.bad("bound", (-1, ()), "bound", (0, 0, 0), zeros + (0,), zeros + (0,))
        self.bad("bound", (-1, ()), "bound", (0, 0, 0), zeros, zeros[1:])
        self.bad("ring", (1, ()), "ring", ((0, 1),), pairs + ((0, 1),))
        self.bad("ring", (1, ()), "ring", ((0, 0),), pairs)
        self.bad("ring", (1, ()), "ring", ((1, 1),), pairs)

    def test_a_thing_that_is_no_bit(self):
        for bill in ((-1, ()), (-1, ((BEST, 0, 0),))):
            heights = (0,) * 3 ** width(bill)
            for at in (0, 1, 2, 3, 5000, 9997, 9998, 9999):
                for thing in NO_BITS:
                    row = (0,) * at + (thing,) + (0,) * (9999 - at)
                    self.bad("bound", bill, "bound", heights, row, (0,) * 10000)
                    self.bad("bound", bill, "bound", heights, (0,) * 10000, row)

    def test_a_thing_that_is_no_pair(self):
        for bill in (OWN, WIDE_OWN):
            couple = ((0, 1),) * width(bill)
            for at in (0, 1, 2, 3, 5000, 9997, 9998, 9999):
                for thing in NO_PAIRS:
                    ring = ((0, 1),) * at + (thing,) + ((0, 1),) * (9999 - at)
                    self.bad("ring", bill, "ring", couple, ring)
