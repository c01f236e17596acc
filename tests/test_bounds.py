"""Whether a BILL is bounded, and by how much: is_bounded, greatest, best_row."""

from bestoflast.bills import width, worth
from bestoflast.bounds import best_row, bound_paper, check_bound, greatest, is_bounded
from bestoflast.errors import BadBill
from tests.helper import NO_TUPLES, Case, rows
from tests.search import (
    BEST, BEST_OF_SIX, LEAST_OF_SIX, SIX, SIX_UP, SMALL, bills_by_chance, ring_by_words,
    rows_worth, search_row,
)

BY_CHANCE = bills_by_chance(120, (1, 2, 3))
BY_HAND = (
    # OWN alone: above 0 each 1 pays, else none is best.
    ((0, ()), 0, (0,)),
    ((1, ()), None, None),
    ((50, ()), None, None),
    ((-1, ()), 0, (0,)),
    ((-50, ()), 0, (0,)),
    # The last one less the one ahead of it: from 0 up to 1, once.
    ((0, (((1,), -1, 1),)), 1, (0, 1)),
    ((0, (((1,), 1, -1),)), 1, (1, 0)),
    ((0, (((20,), -50, 50),)), 1000, (0, 1)),
    ((-1, (((1,), -1, 1),)), 0, (0,)),
    ((1, (((1,), -1, 1),)), None, None),
    # A 1 behind WIDTH others pays for its own; the last one of these does not.
    ((-1, (((1,), 1, 0),)), 1, (1, 0)),
    ((0, (((1,), 1, 0),)), None, None),
    ((0, (((1,), 0, 1),)), None, None),
    ((0, (((1,), 0, -1),)), 0, (0,)),
    ((0, (((1,), -3, 2),)), 2, (0, 1)),
    # The greater one of the last two less the other one: a change, each time.
    ((0, (((-1, 1), 0, 1),)), None, None),
    ((-1, (((-1, 1), 0, 1),)), None, None),
    ((-2, (((-1, 1), 0, 1),)), 1, (0, 1, 0)),
    # The best two of three, from 0 to 2 of them.
    ((0, ((BEST, -1, 1),)), 2, (0, 0, 0, 1, 1)),
    ((0, ((BEST, 1, -1),)), 2, (1, 1, 0, 0, 0)),
    ((-1, ((BEST, -1, 1),)), 0, (0, 0, 0)),
    # Rules of unlike lengths: the short one looks at the last ones alone.
    ((0, (((1,), -5, 5), ((0, 0, 0, 1), 5, -5))), 5, (0, 0, 1, 0, 1)),
    ((0, (((0, 0, 0, 1), -5, 5), ((1,), 5, -5))), 5, (0, 0, 0, 1, 0)),
    # Six weights twice: 1 for each of the best three, 2 for the sixth.
    (SIX_UP, 5, (0,) * 6 + (1,) * 6),
    ((-1, SIX_UP[1]), 1, (0, 1, 1, 1, 1, 1, 1)),
    ((-2, SIX_UP[1]), 0, (0,) * 6),
    ((1, SIX_UP[1]), None, None),
    ((0, ((BEST_OF_SIX, 1, -1), (LEAST_OF_SIX, 2, -2))), 5, (1,) * 6 + (0,) * 6),
    ((50, (((20,) * 6, 50, 50), ((-20,) * 6, -50, -50))), None, None),
    ((-50, (((20,) * 6, -50, 50), ((-20,) * 6, 50, -50))), 6 * 1950, (0,) * 6 + (1,) * 6),
    ((-50, (((20,) * 6, -50, -50), ((-20,) * 6, 50, 50))), 0, (0,) * 6),
)


class ByHand(Case):

    def test_each(self):
        for bill, most, row in BY_HAND:
            self.assertIs(is_bounded(bill), most is not None, bill)
            self.assertEqual(greatest(bill), most, bill)
            self.assertEqual(best_row(bill), row, bill)

    def test_one_more_own_at_the_edge(self):
        for bill, most, _ in BY_HAND:
            if most is None and bill[0] < 50:
                self.assertFalse(is_bounded((bill[0] + 1, bill[1])))
            if most is not None and bill[0] > -50:
                self.assertTrue(is_bounded((bill[0] - 1, bill[1])))
                self.assertLessEqual(greatest((bill[0] - 1, bill[1])), most)

    def test_kinds_of_what_is_returned(self):
        for bill in SMALL + SIX:
            bounded, most, row = is_bounded(bill), greatest(bill), best_row(bill)
            self.assertIs(bounded.__class__, bool)
            if bounded:
                self.assertIs(most.__class__, int)
                self.assertIs(row.__class__, tuple)
                self.assertTrue(all(bit.__class__ is int and bit in (0, 1) for bit in row))
                self.assertGreaterEqual(most, 0)
                self.assertGreaterEqual(len(row), width(bill))
            else:
                self.assertIsNone(most)
                self.assertIsNone(row)


class Search(Case):

    def bounded(self, bill, most):
        """The first one of the shortest rows, as a search over rows of so many bits finds it."""
        row, top = search_row(bill, most)
        self.assertGreaterEqual(greatest(bill), top, bill)
        self.assertEqual(worth(bill, best_row(bill)), greatest(bill), bill)
        if len(best_row(bill)) <= most:
            self.assertEqual((best_row(bill), greatest(bill)), (row, top), bill)
        return len(best_row(bill)) <= most

    def unbounded(self, bill):
        """A row that goes on around the ring of the paper is worth more each time."""
        word, place, ring = bound_paper(bill)
        self.assertEqual(word, "ring")
        self.assertTrue(ring_by_words(bill, place, ring), bill)
        worths = [worth(bill, place + ring * many) for many in range((200 - len(place)) // len(ring))]
        for many in range(1, len(worths)):
            self.assertEqual(worths[many], worths[1] * many)
        self.assertGreater(worths[1], 0)

    def test_small_bills(self):
        found = [self.bounded(bill, 11) for bill in SMALL + tuple(BY_CHANCE) if is_bounded(bill)]
        self.assertEqual(found.count(False), 0)
        self.assertGreater(len(found), 60)

    def test_small_bills_without_a_bound(self):
        found = [bill for bill in SMALL + tuple(BY_CHANCE) if not is_bounded(bill)]
        self.assertGreater(len(found), 20)
        for bill in found:
            self.unbounded(bill)

    def test_six_weights(self):
        chance = bills_by_chance(24, (6,), seed=2) + bills_by_chance(12, (1, 6), seed=3)
        self.assertEqual(len(chance), 36)
        found = [self.bounded(bill, 12) for bill in SIX + tuple(chance) if is_bounded(bill)]
        self.assertGreater(found.count(True), 15)
        found = [bill for bill in SIX + tuple(chance) if not is_bounded(bill)]
        self.assertGreater(len(found), 5)
        for bill in found:
            self.unbounded(bill)

    def test_four_and_five_weights(self):
        for bill in bills_by_chance(30, (4, 5, 1), seed=4):
            if is_bounded(bill):
                self.bounded(bill, 12)
            else:
                self.unbounded(bill)

    def test_no_search_finds_more_where_the_bound_is_0(self):
        for bill in (*SMALL, *SIX, *BY_CHANCE):
            if greatest(bill) == 0:
                self.assertEqual(best_row(bill), (0,) * width(bill))
                for found in rows_worth(bill, width(bill) + 5):
                    self.assertLessEqual(max(worth for _, worth in found), 0)

    def test_the_same_bill_told_otherwise(self):
        for own, terms in (*SMALL, *SIX):
            for other in (terms[::-1], terms + (((0,), 7, -7),) * (2 - len(terms))):
                self.assertEqual(greatest((own, other)), greatest((own, terms)))
                self.assertEqual(best_row((own, other)), best_row((own, terms)))


class Facts(Case):

    def test_most_times_the_greatest(self):
        for bill in (*SMALL, *SIX):
            top = greatest(bill)
            for number, row in enumerate(rows(60, 25, 7, seed=8)):
                if top is not None and len(row) >= width(bill):
                    self.assertLessEqual(worth(bill, row), max(row) * top)
                    self.assertLessEqual(worth(bill, (number,) + row), max(number, *row) * top)

    def test_a_row_with_just_that_worth(self):
        for bill in (*SMALL, *SIX):
            if is_bounded(bill):
                for most in (0, 1, 2, 999, 10 ** 6):
                    row = tuple(most * bit for bit in best_row(bill))
                    self.assertEqual(worth(bill, row), most * greatest(bill))

    def test_the_paper_says_the_same(self):
        for bill in (*SMALL, *SIX, *BY_CHANCE):
            word = check_bound(bill, bound_paper(bill))
            self.assertEqual(word == "bound", is_bounded(bill))


class Calls(Case):

    def test_no_bill(self):
        for call in (is_bounded, greatest, best_row, bound_paper):
            for thing in (*NO_TUPLES, (), (1,), (1, (), ())):
                self.refused(BadBill, "part", "form", call, thing)
            for own in (51, -51, True, None, "1"):
                self.refused(BadBill, "part", "own", call, (own, ()))
            for terms in (None, [], ((BEST, 0, 0),) * 3):
                self.refused(BadBill, "part", "terms", call, (1, terms))
            self.refused(BadBill, "part", 0, call, (1, (BEST, 0, 0)[:1]))
            self.refused(BadBill, "part", 0, call, (1, (((21,), 0, 0),)))
            self.refused(BadBill, "part", 1, call, bill=(1, ((BEST, 0, 0), (BEST, 51, 0))))

    def test_by_name_and_twice(self):
        for call in (is_bounded, greatest, best_row, bound_paper):
            for bill in (*SMALL, *SIX):
                self.assertEqual(self.unchanged(call, bill), call(bill=bill))

    def test_bounds_of_what_can_be_passed(self):
        for own in (-50, 50):
            for ahead in (-50, 50):
                for behind in (-50, 50):
                    for weight in (-20, 20):
                        bill = (own, (((weight,) * 6, ahead, behind), ((-weight,) * 6, behind, ahead)))
                        top = greatest(bill)
                        self.assertIs(is_bounded(bill), top is not None)
                        self.assertEqual(check_bound(bill, bound_paper(bill)), "bound" if top is not None else "ring")
