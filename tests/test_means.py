"""In the long run: mean, top, low, top_ring, top_gain."""

import random
from fractions import Fraction

from bestoflast.bills import width, worth
from bestoflast.bounds import is_bounded
from bestoflast.errors import BadBill, BadNumber
from bestoflast.means import low, mean, top, top_gain, top_ring
from bestoflast.worse import greatest_gain
from tests.helper import NO_INTEGERS, NO_TUPLES, Case
from tests.search import (
    BEST, MIDDLE, NO_BITS, SIX, SIX_UP, SMALL, bills_by_chance, couple_steps, means_of, own_of, place_steps,
    ring_pays, told, top_of,
)

BILLS = (*SMALL, *MIDDLE, *bills_by_chance(80, (1, 2, 3), seed=51))
NARROW = [bill for bill in BILLS if width(bill) <= 3]
WIDE = (*SIX, *bills_by_chance(12, (6,), seed=52))
BY_HAND = (
    # The bill, its top, its low and its top gain.
    ((0, ()), (0, 1), (0, 1), (0, 1)),
    ((1, ()), (1, 1), (0, 1), (1, 1)),
    ((-1, ()), (0, 1), (-1, 1), (0, 1)),
    ((50, ()), (50, 1), (0, 1), (50, 1)),
    ((0, (((1,), -1, 1),)), (0, 1), (0, 1), (0, 1)),
    ((0, (((1,), -3, 2),)), (0, 1), (-1, 1), (0, 1)),
    # The greater of the last two less the lesser: 1 for each change.
    ((0, (((-1, 1), 0, 1),)), (1, 1), (0, 1), (1, 1)),
    ((0, (((-1, 1), 0, -1),)), (0, 1), (-1, 1), (1, 1)),
    # 1 each time that there is just one 1 among the last three: 0, 0, 1 and so on.
    ((0, (((0, -1, 1), 0, 1),)), (1, 1), (0, 1), (1, 1)),
    # 2 for each change, less 1 for each 1: 0, 1 brings 3 in two bits.
    ((-1, (((-2, 2), 0, 1), ((1,), 0, 0))), (3, 2), (-1, 1), (3, 2)),
    ((-2, (((-1, 1), 0, 2),)), (1, 1), (-2, 1), (1, 1)),
    # One 1 in three bits, as none of two pairs of them are both ones: 3 less 1, in three bits.
    ((-1, (((0, 0, 1), 0, 1), ((0, -5, 0), 0, 1))), (2, 3), (-5, 1), (2, 3)),
    (SIX_UP, (0, 1), (0, 1), (0, 1)),
    (own_of(SIX_UP, 1), (1, 1), (0, 1), (1, 1)),
    ((50, (((20,) * 6, 50, 50), ((20,) * 6, 50, 50))), (24050, 1), (0, 1), (24050, 1)),
)


class Mean(Case):

    def test_by_hand(self):
        self.assertEqual(mean((1, ()), (1,), (1,)), (1, 1))
        self.assertEqual(mean((1, ()), (0,), (0,)), (0, 1))
        self.assertEqual(mean((1, ()), (0,), (1, 0)), (1, 2))
        self.assertEqual(mean((-3, ()), (0,), (1, 0, 1, 0, 0, 0)), (-1, 1))
        self.assertEqual(mean((-3, ()), (0,), (1, 0, 0, 0)), (-3, 4))
        self.assertEqual(mean((-3, ()), (0,), (1, 1, 0, 0, 0, 0)), (-1, 1))
        self.assertEqual(mean((6, ()), (1,), (0, 0, 0, 1)), (3, 2))
        bill = (1, ((BEST, 1, -1),))
        self.assertEqual(mean(bill, (0, 1, 1), (0, 1, 1)), (2, 3))
        self.assertEqual(mean(bill, (0, 1, 1), (0, 1, 1) * 5), (2, 3))

    def test_a_fraction_without_a_common_divisor(self):
        chance = random.Random(3)
        found = []
        for bill in BILLS:
            for _ in range(10):
                place = tuple(chance.randint(0, 1) for _ in range(width(bill)))
                bits = tuple(chance.randint(0, 1) for _ in range(chance.randint(0, 12))) + place
                wanted = Fraction(sum(ring_pays(bill, place, bits)), len(bits))
                self.assertEqual(self.unchanged(mean, bill, place, bits), told(wanted))
                found.append(wanted)
        for kind in (lambda one: one < 0, lambda one: one == 0, lambda one: one > 0):
            self.assertGreater(len([one for one in found if kind(one)]), 20)
        self.assertGreater(len([one for one in found if one.denominator > 1]), 20)

    def test_kinds(self):
        for bits in ((0,), (1, 0), (1, 1, 0)):
            part, of = mean((-1, ()), (0,), bits)
            self.assertIs(part.__class__, int)
            self.assertIs(of.__class__, int)

    def test_by_name(self):
        self.assertEqual(mean(bits=(1, 0), bill=(1, ()), place=(0,)), (1, 2))

    def test_the_longest(self):
        self.assertEqual(mean((1, ()), (1,), (1,) * 10000), (1, 1))
        self.assertEqual(mean((1, ()), (0,), (1,) + (0,) * 9999), (1, 10000))
        self.assertEqual(mean(SIX_UP, (0,) * 6, (0,) * 10000), (0, 1))
        for bits in ((1,) * 10001, (1,) * 20000, ()):
            self.refused(BadNumber, "value", bits, mean, (1, ()), (1,), bits)

    def test_no_place(self):
        for bill in ((1, ()), (1, ((BEST, 0, 1),)), SIX_UP):
            wide = width(bill)
            for bits in ((0,) * wide, None, (), (5,)):
                for thing in (*NO_TUPLES, (), (0,) * (wide - 1), (0,) * (wide + 1), (1,) * 7, [0] * wide):
                    self.refused(BadNumber, "value", thing, mean, bill, thing, bits)
                for at in range(wide):
                    for thing in NO_BITS:
                        place = (0,) * at + (thing,) + (0,) * (wide - 1 - at)
                        with self.assertRaises(BadNumber) as caught:
                            mean(bill, place, bits)
                        self.assertIs(caught.exception.value, place)

    def test_no_bits(self):
        for bill in ((1, ()), (1, ((BEST, 0, 1),)), SIX_UP):
            place = (0,) * width(bill)
            for thing in (*NO_TUPLES, (), [0], [0] * 6):
                self.refused(BadNumber, "value", thing, mean, bill, place, thing)
            for many in (1, 6, 7, 20):
                for at in range(many):
                    for thing in NO_BITS:
                        bits = (0,) * at + (thing,) + (0,) * (many - 1 - at)
                        with self.assertRaises(BadNumber) as caught:
                            mean(bill, place, bits)
                        self.assertIs(caught.exception.value, bits)

    def test_bits_that_do_not_lead_back(self):
        bill = (1, ((BEST, 0, 1),))
        for bits in ((1,), (0, 1), (1, 1, 0), (0, 0, 1), (0, 1, 1, 1), (1, 0), (1,) * 9):
            self.refused(BadNumber, "value", bits, mean, bill, (0, 1, 1), bits)
        for bits in ((0, 1, 1), (1, 0, 1, 1), (0, 1, 1, 0, 1, 1)):
            mean(bill, (0, 1, 1), bits)
        # Fewer bits than there are in a PLACE can lead back, too.
        self.assertEqual(mean(bill, (1, 1, 1), (1,)), (3, 1))
        self.assertEqual(mean(bill, (0, 1, 0), (1, 0)), mean(bill, (0, 1, 0), (1, 0) * 2))

    def test_what_is_refused_first(self):
        self.refused(BadBill, "part", "form", mean, None, None, None)
        self.refused(BadBill, "part", "own", mean, (51, ()), (0,), (0,))
        self.refused(BadBill, "part", 0, mean, place=None, bits=None, bill=(1, (None,)))
        self.refused(BadNumber, "value", "place", mean, (1, ()), "place", "bits")
        self.refused(BadNumber, "value", "bits", mean, (1, ()), (0,), "bits")


class TopAndLow(Case):

    def test_by_hand(self):
        for bill, highest, lowest, most in BY_HAND:
            self.assertEqual(self.unchanged(top, bill), highest, bill)
            self.assertEqual(self.unchanged(low, bill), lowest, bill)
            self.assertEqual(self.unchanged(top_gain, bill), most, bill)

    def test_against_all_rings(self):
        for bill in NARROW:
            means = means_of(place_steps(bill))
            self.assertEqual(top(bill), told(max(means)), bill)
            self.assertEqual(low(bill), told(min(means)), bill)

    def test_against_walks_of_so_many_steps(self):
        for bill in (*SMALL, *WIDE):
            steps = place_steps(bill)
            self.assertEqual(top(bill), told(top_of(steps)), bill)
            less = {place: {bit: (-pay, to) for bit, (pay, to) in ways.items()} for place, ways in steps.items()}
            self.assertEqual(low(bill), told(-top_of(less)), bill)

    def test_the_two_ways_tell_the_same(self):
        for bill in NARROW[:20]:
            self.assertEqual(top_of(place_steps(bill)), max(means_of(place_steps(bill))))

    def test_0_and_below_and_above(self):
        tops = [top(bill) for bill in BILLS]
        lows = [low(bill) for bill in BILLS]
        # The ring of noughts pays nothing.
        self.assertTrue(all(part >= 0 for part, _ in tops))
        self.assertTrue(all(part <= 0 for part, _ in lows))
        for found in (tops, lows):
            self.assertIn((0, 1), found)
            self.assertTrue(any(of > 1 for _, of in found))

    def test_bounded_exactly_if_the_top_is_0(self):
        for bill in (*BILLS, *WIDE):
            self.assertEqual(is_bounded(bill), top(bill) == (0, 1), bill)

    def test_no_row_is_worth_more_in_the_long_run(self):
        chance = random.Random(8)
        for bill in (*SMALL, *SIX):
            highest, lowest = Fraction(*top(bill)), Fraction(*low(bill))
            place, bits = top_ring(bill)
            ring = (place + bits * 200)[:200]
            paying = len(ring) - width(bill)
            most = max(abs(pay) for ways in place_steps(bill).values() for pay, _ in ways.values())
            beside = most * 2 * 2 ** width(bill)
            self.assertGreaterEqual(worth(bill, ring), highest * paying - beside)
            for _ in range(3):
                row = tuple(chance.randint(0, 7) for _ in range(200))
                self.assertLessEqual(worth(bill, row), 7 * (highest * paying + beside))
                self.assertGreaterEqual(worth(bill, row), 7 * (lowest * paying - beside))

    def test_by_name(self):
        bill = (-1, (((-2, 2), 0, 1),))
        self.assertEqual(top(bill=bill), (3, 2))
        self.assertEqual(low(bill=bill), (-1, 1))
        self.assertEqual(top_gain(bill=bill), (3, 2))

    def test_kinds(self):
        for call in (top, low, top_gain):
            for bill in (*SMALL, *SIX):
                fraction = call(bill)
                self.assertIs(fraction.__class__, tuple)
                self.assertEqual([part.__class__ for part in fraction], [int, int])

    def test_no_bill(self):
        for call in (top, low, top_ring, top_gain):
            for thing in (*NO_TUPLES, (), (1,), (1, (), ())):
                self.refused(BadBill, "part", "form", call, thing)
            for thing in (*NO_INTEGERS, 51, -51):
                self.refused(BadBill, "part", "own", call, (thing, ()))
            self.refused(BadBill, "part", "terms", call, (1, None))
            self.refused(BadBill, "part", 1, call, bill=(1, ((BEST, 0, 0), (BEST, 51, 0))))


class TopRing(Case):

    def test_its_mean_is_the_top(self):
        for bill in (*BILLS, *WIDE):
            place, bits = self.unchanged(top_ring, bill)
            self.assertEqual(mean(bill, place, bits), top(bill))
            self.assertEqual(Fraction(sum(ring_pays(bill, place, bits)), len(bits)), Fraction(*top(bill)))

    def test_no_more_bits_than_places(self):
        for bill in (*BILLS, *WIDE):
            place, bits = top_ring(bill)
            self.assertLessEqual(len(bits), 2 ** width(bill))
            self.assertEqual(len(place), width(bill))

    def test_kinds(self):
        for bill in (*BILLS, *WIDE):
            ring = top_ring(bill)
            self.assertEqual([part.__class__ for part in ring], [tuple, tuple])
            self.assertTrue(all(bit.__class__ is int for part in ring for bit in part))

    def test_by_name(self):
        self.assertEqual(top_ring(bill=(1, ())), ((1,), (1,)))


class TopGain(Case):

    def test_against_all_rings(self):
        for bill in BILLS:
            if width(bill) <= 2:
                self.assertEqual(top_gain(bill), told(max(means_of(couple_steps(bill)))), bill)

    def test_against_walks_of_so_many_steps(self):
        for bill in BILLS[:60]:
            if width(bill) <= 3:
                self.assertEqual(top_gain(bill), told(top_of(couple_steps(bill))), bill)

    def test_six_weights_against_walks(self):
        for bill in (WIDE[3], WIDE[6], WIDE[10], WIDE[13]):
            self.assertEqual(top_gain(bill), told(top_of(couple_steps(bill))), bill)

    def test_0_exactly_if_there_is_a_greatest_gain(self):
        for bill in (*BILLS, *WIDE):
            self.assertEqual(greatest_gain(bill, "any") is not None, top_gain(bill) == (0, 1), bill)

    def test_not_below_the_top(self):
        # A ring of the PLACES beside the noughts is a ring of COUPLES.
        for bill in (*BILLS, *WIDE):
            self.assertGreaterEqual(Fraction(*top_gain(bill)), Fraction(*top(bill)))
