"""The paper on whether a BILL is bounded: bound_paper and check_bound."""

import random
from itertools import product

from bestoflast.bills import width
from bestoflast.bounds import bound_paper, check_bound, greatest, is_bounded
from bestoflast.errors import BadBill, BadPaper
from tests.helper import NO_TUPLES, Case
from tests.search import (
    BEST, NO_BITS, NO_FORMS, NO_HEIGHTS, SIX, SIX_UP, SMALL, bills_by_chance, bound_by_words, own_of,
    ring_by_words,
)

BILLS = (*SMALL, *SIX, *bills_by_chance(60, (1, 2, 3), seed=11))
STEP = (0, (((1,), -3, 2),))
WIDE_STEP = (0, (((1,), -3, 2), ((0, 0), 0, 0)))


class Papers(Case):

    def taken(self, bill, paper):
        self.assertEqual(check_bound(bill, paper), paper[0])

    def bad(self, part, bill, *paper):
        self.refused(BadPaper, "part", part, check_bound, bill, paper)

    def judged(self, bill, paper):
        """A paper is taken just if it is as the words tell."""
        by_words = bound_by_words if paper[0] == "bound" else ring_by_words
        if by_words(bill, *paper[1:]):
            self.taken(bill, paper)
            return True
        self.bad(paper[0], bill, *paper)
        return False


class Told(Papers):

    def test_the_told_paper_is_taken(self):
        for bill in BILLS:
            paper = bound_paper(bill)
            self.assertIs(paper.__class__, tuple)
            self.assertEqual(len(paper), 3)
            self.assertTrue(self.judged(bill, paper), bill)
            self.assertEqual(paper[0], "bound" if is_bounded(bill) else "ring")

    def test_kinds_of_its_parts(self):
        for bill in BILLS:
            word, first, second = bound_paper(bill)
            self.assertIs(word.__class__, str)
            for part in (first, second):
                self.assertIs(part.__class__, tuple)
                self.assertTrue(all(thing.__class__ is int for thing in part))

    def test_its_heights_go_along_with_the_greatest(self):
        for bill in BILLS:
            word, heights, _ = bound_paper(bill)
            if word == "bound":
                self.assertEqual(max(heights), greatest(bill))
                self.assertEqual(len(heights), len(list(product((0, 1), repeat=width(bill)))))

    def test_no_other_bill_takes_a_bound_too_low(self):
        word, heights, row = bound_paper(SIX_UP)
        self.bad("bound", (1, SIX_UP[1]), word, heights, row)
        self.bad("bound", (-1, SIX_UP[1]), word, heights, row)

    def test_by_hand(self):
        self.taken((0, ()), ("bound", (0, 0), (0,)))
        self.taken((0, ()), ("bound", (0, 0), (1, 0, 1)))
        self.taken((-1, ()), ("bound", (0, 0), (1, 0)))
        self.taken((1, ()), ("ring", (1,), (1,)))
        self.taken((1, ()), ("ring", (0,), (1, 0)))
        self.taken(STEP, ("bound", (2, 0), (0, 1)))
        self.taken((0, ((BEST, -1, 1),)), ("bound", (2, 1, 1, 0, 1, 0, 0, 0), (0, 0, 0, 1, 1)))
        self.taken((0, (((-1, 1), 0, 1),)), ("ring", (0, 1), (0, 1)))

    def test_told_by_name_and_twice(self):
        for bill in SMALL:
            paper = self.unchanged(bound_paper, bill)
            self.assertEqual(self.unchanged(check_bound, bill, paper), paper[0])
            self.assertEqual(check_bound(paper=paper, bill=bill), paper[0])


class Bounds(Papers):

    def test_each_height_less(self):
        for bill in BILLS:
            word, heights, row = bound_paper(bill)
            if word == "bound" and len(heights) <= 16:
                for at, height in enumerate(heights):
                    less = heights[:at] + (height - 1,) + heights[at + 1:]
                    self.assertFalse(self.judged(bill, (word, less, row)), bill)

    def test_each_height_greater(self):
        found = []
        for bill in BILLS:
            word, heights, row = bound_paper(bill)
            if word == "bound" and len(heights) <= 16:
                for at, height in enumerate(heights):
                    more = heights[:at] + (height + 1,) + heights[at + 1:]
                    found.append(self.judged(bill, (word, more, row)))
        self.assertIn(True, found)
        self.assertIn(False, found)

    def test_greater_heights_that_still_hold(self):
        self.assertEqual(bound_paper(WIDE_STEP), ("bound", (2, 0, 2, 0), (0, 0, 1)))
        self.taken(WIDE_STEP, ("bound", (2, 0, 2, 1), (0, 0, 1)))
        self.bad("bound", WIDE_STEP, "bound", (2, 0, 2, 2), (0, 0, 1))
        self.bad("bound", WIDE_STEP, "bound", (2, 1, 2, 1), (0, 0, 1))
        self.bad("bound", WIDE_STEP, "bound", (3, 1, 3, 1), (0, 0, 1))

    def test_all_heights_greater(self):
        for bill in BILLS:
            word, heights, row = bound_paper(bill)
            if word == "bound":
                for more in (1, 10 ** 58):
                    self.bad(word, bill, word, tuple(height + more for height in heights), row)

    def test_heights_of_many_figures(self):
        self.bad("bound", (0, ()), "bound", (10 ** 59, 10 ** 59), (0,))
        self.bad("bound", STEP, "bound", (10 ** 59, 10 ** 59 - 2), (0, 1))

    def test_too_few_or_too_many_heights(self):
        for bill in (*SMALL, *SIX):
            word, heights, row = bound_paper(bill)
            if word == "bound":
                for wrong in ((), heights[:-1], heights[1:], heights + (0,), heights * 2, heights[:1]):
                    self.bad(word, bill, word, wrong, row)

    def test_no_heights(self):
        for thing in NO_TUPLES:
            self.bad("bound", (0, ()), "bound", thing, (0,))
        self.bad("bound", (0, ()), "bound", [0, 0], (0,))

    def test_no_height_at_each_place(self):
        for bill in ((0, ()), (-1, ()), STEP, (0, ((BEST, -1, 1),))):
            word, heights, row = bound_paper(bill)
            for at in range(len(heights)):
                for thing in NO_HEIGHTS:
                    self.bad(word, bill, word, heights[:at] + (thing,) + heights[at + 1:], row)

    def test_no_row(self):
        for thing in NO_TUPLES:
            self.bad("bound", (0, ()), "bound", (0, 0), thing)
        self.bad("bound", (0, ()), "bound", (0, 0), [0])

    def test_no_bit_at_each_place(self):
        for bill in (STEP, (0, ((BEST, -1, 1),)), SIX_UP):
            word, heights, row = bound_paper(bill)
            for at in range(len(row)):
                for thing in NO_BITS:
                    self.bad(word, bill, word, heights, row[:at] + (thing,) + row[at + 1:])

    def test_each_bit_otherwise(self):
        for bill in BILLS:
            word, heights, row = bound_paper(bill)
            if word == "bound":
                for at, bit in enumerate(row):
                    self.judged(bill, (word, heights, row[:at] + (1 - bit,) + row[at + 1:]))
        for row in ((1, 1), (0, 0), (1, 0), (1,), (0,)):
            self.bad("bound", STEP, "bound", (2, 0), row)

    def test_rows_of_a_bit_less_than_width(self):
        for bill in (*SMALL, *SIX):
            word, heights, _ = bound_paper(bill)
            if word == "bound":
                for fewer in range(width(bill)):
                    self.bad(word, bill, word, heights, (0,) * fewer)

    def test_longer_rows_that_still_hold(self):
        self.taken(STEP, ("bound", (2, 0), (0, 0, 1)))
        self.taken(STEP, ("bound", (2, 0), (0,) * 9999 + (1,)))
        self.bad("bound", STEP, "bound", (2, 0), (0,) * 10000 + (1,))
        self.bad("bound", STEP, "bound", (2, 0), (0,) * 9998 + (1, 1))
        top = (0,) * 6 + (1,) * 9994
        word, heights, _ = bound_paper(SIX_UP)
        self.taken(SIX_UP, (word, heights, top))
        self.bad(word, SIX_UP, word, heights, top + (1,))
        self.bad(word, SIX_UP, word, heights, top[:-1] + (0,))

    def test_rows_of_too_small_a_worth(self):
        for bill in (*SMALL, *SIX):
            word, heights, _ = bound_paper(bill)
            if word == "bound" and max(heights) > 0:
                self.bad(word, bill, word, heights, (0,) * width(bill))

    def test_places_stand_ascending(self):
        bill = (0, (((1,), -3, 2), ((0, 0), 0, 0)))
        self.bad("bound", bill, "bound", (2, 2, 0, 0), (0, 0, 1))
        self.bad("bound", bill, "bound", (0, 2, 0, 2), (0, 0, 1))

    def test_a_bound_for_a_bill_without(self):
        self.bad("bound", (1, ()), "bound", (0, 0), (0,))
        self.bad("bound", (1, ()), "bound", (5, 4), (0,) + (1,) * 5)
        self.bad("bound", (1, ()), "bound", (9999, 9999), (0,) + (1,) * 9999)


class Rings(Papers):

    def test_by_chance(self):
        chance = random.Random(5)
        found = []
        for bill in SMALL:
            for _ in range(40):
                place = tuple(chance.randint(0, 1) for _ in range(width(bill)))
                ring = tuple(chance.randint(0, 1) for _ in range(chance.randint(1, 4)))
                found.append(self.judged(bill, ("ring", place, ring)))
                found.append(self.judged(bill, ("ring", place, ring + place)))
        self.assertGreater(found.count(True), 20)
        self.assertGreater(found.count(False), 20)

    def test_an_empty_ring(self):
        for bill in (*SMALL, *SIX):
            self.bad("ring", bill, "ring", (0,) * width(bill), ())

    def test_a_ring_that_pays_nothing(self):
        self.bad("ring", (0, ()), "ring", (0,), (0,))
        self.bad("ring", (1, ()), "ring", (0,), (0,))
        self.bad("ring", (-1, ()), "ring", (1,), (1,))
        self.bad("ring", STEP, "ring", (0,), (1, 0))
        self.bad("ring", (0, (((1,), -1, 1),)), "ring", (0,), (1, 0))
        for place in product((0, 1), repeat=6):
            self.bad("ring", SIX_UP, "ring", place, place)

    def test_a_ring_that_does_not_lead_back(self):
        self.bad("ring", (1, ()), "ring", (0,), (1,))
        self.bad("ring", (1, ()), "ring", (1,), (1, 0))
        self.bad("ring", (1, ((BEST, 0, 0),)), "ring", (0, 1, 1), (1, 1, 1))
        self.bad("ring", (1, ((BEST, 0, 0),)), "ring", (0, 1, 1), (0, 1))
        self.taken((1, ((BEST, 0, 0),)), ("ring", (0, 1, 1), (0, 1, 1)))
        self.taken((1, ((BEST, 0, 0),)), ("ring", (0, 1, 1), (0, 1, 1) * 2))
        self.taken((1, ((BEST, 0, 0),)), ("ring", (1, 1, 1), (1,)))

    def test_around_more_than_once(self):
        for bill in BILLS:
            word, place, ring = bound_paper(bill)
            if word == "ring":
                for many in (2, 3, 7, 10000 // len(ring)):
                    self.taken(bill, (word, place, ring * many))
                self.bad(word, bill, word, place, ring * (10000 // len(ring) + 1))

    def test_the_longest_rings(self):
        for bill in ((1, ()), (50, ())):
            self.taken(bill, ("ring", (1,), (1,) * 10000))
            self.taken(bill, ("ring", (0,), (1,) + (0,) * 9999))
            self.bad("ring", bill, "ring", (1,), (1,) * 10001)
            self.bad("ring", bill, "ring", (0,), (1,) + (0,) * 10000)
            self.bad("ring", bill, "ring", (0,), (0,) * 10000)

    def test_no_place(self):
        bill = (1, ((BEST, 0, 0),))
        for thing in (*NO_TUPLES, (), (1,), (1, 1), (1, 1, 1, 1), [1, 1, 1]):
            self.bad("ring", bill, "ring", thing, (1,))
        for at in range(3):
            for thing in NO_BITS:
                self.bad("ring", bill, "ring", (1,) * at + (thing,) + (1,) * (2 - at), (1,))

    def test_no_ring(self):
        for thing in NO_TUPLES:
            self.bad("ring", (1, ()), "ring", (1,), thing)
        for at in range(3):
            for thing in NO_BITS:
                self.bad("ring", (1, ()), "ring", (1,), (1,) * at + (thing,) + (1,) * (2 - at))

    def test_another_place(self):
        for bill in BILLS:
            word, place, ring = bound_paper(bill)
            if word == "ring":
                for at, bit in enumerate(place):
                    self.judged(bill, (word, place[:at] + (1 - bit,) + place[at + 1:], ring))
                for at, bit in enumerate(ring):
                    self.judged(bill, (word, place, ring[:at] + (1 - bit,) + ring[at + 1:]))

    def test_a_ring_for_a_bounded_bill(self):
        self.bad("ring", (0, ()), "ring", (1,), (1,))
        self.bad("ring", SIX_UP, "ring", (1,) * 6, (1,))


class Forms(Papers):

    def test_no_form(self):
        for bill in ((0, ()), (1, ()), SIX_UP):
            for thing in NO_FORMS:
                self.refused(BadPaper, "part", "form", check_bound, bill, thing)
            self.bad("form", bill, "bound", (0, 0), (0,), (0,))

    def test_the_word_tells_what_is_looked_at(self):
        self.bad("ring", (0, ()), "ring", (0, 0), (0,))
        self.bad("bound", (1, ()), "bound", (1,), (1,))
        self.bad("bound", (0, ()), "bound", None, None)
        self.bad("ring", (0, ()), "ring", None, None)

    def test_the_bill_is_told_first(self):
        for paper in (None, (), ("bound", (0, 0), (0,)), ("ring", (1,), ()), ("bound", 1, 2)):
            self.refused(BadBill, "part", "form", check_bound, None, paper)
            self.refused(BadBill, "part", "own", check_bound, (51, ()), paper)
            self.refused(BadBill, "part", "terms", check_bound, (0, []), paper)
            self.refused(BadBill, "part", 0, check_bound, paper=paper, bill=(0, (None,)))

    def test_lists_stay_as_they_were(self):
        told = ["bound", [0, 0], [0]]
        self.refused(BadPaper, "part", "form", check_bound, (0, ()), told)
        self.refused(BadPaper, "part", "bound", check_bound, (0, ()), tuple(told))
        self.assertEqual(told, ["bound", [0, 0], [0]])


class Long(Papers):

    def test_papers_of_10000_bits(self):
        self.assertEqual(check_bound((-1, ()), ("bound", (0, 0), (0,) * 10000)), "bound")
        self.assertEqual(check_bound((1, ()), ("ring", (1,), (1,) * 10000)), "ring")

    def test_a_part_otherwise(self):
        zeros, ones = (0,) * 10000, (1,) * 10000
        for at in (0, 1, 2, 5000, 9998, 9999):
            one, other = zeros[:at] + (1,) + zeros[at + 1:], ones[:at] + (0,) + ones[at + 1:]
            # The first bit of a row is its PLACE, and pays nothing.
            self.assertEqual(self.judged((-1, ()), ("bound", (0, 0), one)), at == 0)
            self.assertEqual(self.judged((1, ()), ("ring", (1,), other)), at != 9999)
            self.assertEqual(self.judged((1, ()), ("ring", (0,), one)), at != 9999)
            self.assertFalse(self.judged((-1, ()), ("ring", (0,), one)))
        for heights in ((0, 1), (1, 0), (1, 1), (0, -1), (0,), (0, 0, 0)):
            self.judged((-1, ()), ("bound", heights, zeros))
        self.bad("bound", (-1, ()), "bound", (0, 0), zeros + (0,))
        self.bad("ring", (1, ()), "ring", (1,), ones + (1,))
        self.bad("ring", (1, ()), "ring", (0,), ones)

    def test_a_thing_that_is_no_bit(self):
        for bill in ((-1, ()), (-1, ((BEST, 0, 0),))):
            wide = width(bill)
            for at in (0, 1, 2, 3, 5000, 9996, 9997, 9998, 9999):
                for thing in NO_BITS:
                    row = (0,) * at + (thing,) + (0,) * (9999 - at)
                    self.bad("bound", bill, "bound", (0,) * 2 ** wide, row)
                    ring = (1,) * at + (thing,) + (1,) * (9999 - at)
                    self.bad("ring", own_of(bill, 1), "ring", (1,) * wide, ring)
