"""The order of results: turned, turn, greatest_turn, turn_row."""

import random
from itertools import product

from bestoflast.bills import width, worth
from bestoflast.errors import BadBill, BadNumber, BadRow
from bestoflast.turns import greatest_turn, turn, turn_row, turned
from tests.helper import NO_INTEGERS, NO_TUPLES, Case
from tests.search import BEST, MIDDLE, SIX, SIX_UP, SMALL, bills_by_chance, paid

BILLS = (*SMALL, *MIDDLE, *bills_by_chance(80, (1, 2, 3), seed=91))
NARROW = [bill for bill in BILLS if width(bill) <= 3]
WIDE = (*SIX, *bills_by_chance(12, (6,), seed=92))
BY_HAND = (
    # The bill, its greatest turn, and the first one of the shortest rows of this.
    ((0, ()), 0, (0, 0, 0)),
    ((50, ()), 0, (0, 0, 0)),
    # The last one less the one ahead of it, all along: the last one less the first one.
    ((0, (((1,), -1, 1),)), 1, (0, 1, 0)),
    ((0, (((1,), 1, -1),)), 1, (0, 0, 1)),
    # Each one but the last one is paid.
    ((0, (((1,), 1, 0),)), 1, (0, 0, 1)),
    # Each one is paid, where it stands.
    ((0, (((1,), 0, 1),)), 0, (0, 0, 0)),
    # 1 for each change: 0, 1, 0, 1 in place of 0, 0, 1, 1.
    ((0, (((-1, 1), 0, 1),)), 2, (0, 0, 0, 1, 1)),
    ((0, (((-1, 1), 0, -1),)), 2, (0, 0, 1, 0, 1)),
    # The middle one of three, ahead of each one.
    ((0, (((0, 1, 0), -1, 1),)), 1, (0, 0, 0, 1, 0, 0, 1)),
)


def turned_by_hand(row, number):
    """The row with two results exchanged."""
    told = list(row)
    told[number], told[number + 1] = told[number + 1], told[number]
    return tuple(told)


def turn_by_search(bill, most):
    """The greatest turn of rows of up to so many bits, the first one of the shortest, and where."""
    wide, table = width(bill), paid(bill)

    def worth_of(row):
        return sum(table[row[at - wide:at + 1]] for at in range(wide, len(row)))

    best = None
    for length in range(wide + 2, most + 1):
        for row in product((0, 1), repeat=length):
            own = worth_of(row)
            for number in range(wide, length - 1):
                more = worth_of(turned_by_hand(row, number)) - own
                if best is None or more > best[0]:
                    best = (more, row, number)
    return best


class Turned(Case):

    def test_by_hand(self):
        self.assertEqual(turned((0, ()), (5, 9, 7, 2), 1), (5, 7, 9, 2))
        self.assertEqual(turned((0, ()), (5, 9, 7, 2), 2), (5, 9, 2, 7))
        self.assertEqual(turned((0, ((BEST, 1, 1),)), (5, 9, 7, 2, 8), 3), (5, 9, 7, 8, 2))
        self.assertEqual(turned((0, ()), (5, 9, 9), 1), (5, 9, 9))

    def test_each_number_at_which_it_can_be(self):
        for bill in (*SMALL, *SIX):
            wide = width(bill)
            for many in (wide + 2, wide + 3, wide + 7, 200):
                row = tuple(range(many))
                for number in range(wide, many - 1):
                    told = self.unchanged(turned, bill, row, number)
                    self.assertEqual(told, turned_by_hand(row, number))
                    self.assertEqual(turned(bill, told, number), row)

    def test_by_name(self):
        self.assertEqual(turned(number=1, bill=(0, ()), row=(5, 9, 7)), (5, 7, 9))


class Turn(Case):

    def test_by_hand(self):
        bill = (2, ((BEST, -1, 0),))
        row = (5, 9, 7, 2, 8)
        self.assertEqual(worth(bill, (5, 9, 7, 8, 2)) - worth(bill, row), turn(bill, row, 3))
        # What is ahead of the last one is 7, 8 in place of 7, 2, beside a 9: 17 in place of 16.
        self.assertEqual(turn(bill, row, 3), -1)

    def test_is_the_one_worth_less_the_other_one(self):
        chance = random.Random(1)
        found = []
        for bill in (*BILLS, *WIDE):
            wide = width(bill)
            for many in (wide + 2, wide + 3, 2 * wide + 2, 40):
                row = tuple(chance.randint(0, 9) for _ in range(many))
                for number in {wide, many - 2, chance.randint(wide, many - 2), chance.randint(wide, many - 2)}:
                    found.append(self.unchanged(turn, bill, row, number))
                    other = turned(bill, row, number)
                    self.assertEqual(found[-1], worth(bill, other) - worth(bill, row), (bill, row, number))
                    self.assertEqual(turn(bill, other, number), -found[-1])
        for kind in (lambda one: one < 0, lambda one: one == 0, lambda one: one > 0):
            self.assertGreater(len([one for one in found if kind(one)]), 50)

    def test_200_results(self):
        chance = random.Random(2)
        for bill in SIX:
            row = tuple(chance.randint(0, 10 ** 6) for _ in range(200))
            for number in (6, 7, 100, 197, 198):
                self.assertEqual(turn(bill, row, number), worth(bill, turned(bill, row, number)) - worth(bill, row))

    def test_by_name(self):
        self.assertEqual(turn(number=1, row=(0, 1, 0), bill=(0, (((1,), -1, 1),))), 1)


class GreatestTurn(Case):

    def test_by_hand(self):
        for bill, most, row in BY_HAND:
            self.assertEqual(self.unchanged(greatest_turn, bill), most, bill)
            self.assertEqual(self.unchanged(turn_row, bill), (row, width(bill)), bill)

    def test_against_all_rows(self):
        for bill in NARROW:
            most, row, number = turn_by_search(bill, 2 * width(bill) + 3)
            self.assertEqual(greatest_turn(bill), most, bill)
            self.assertEqual(turn_row(bill), (row, number), bill)

    def test_six_weights_against_all_rows(self):
        for bill in (SIX[1], SIX[4], WIDE[-1]):
            wide, table = 6, paid(bill)
            best = None
            for length in range(8, 15):
                for row in product((0, 1), repeat=length):
                    if row[6] != row[7]:
                        other = turned_by_hand(row, 6)
                        more = sum(
                            table[other[at - wide:at + 1]] - table[row[at - wide:at + 1]] for at in range(wide, length)
                        )
                        if best is None or more > best[0]:
                            best = (more, row)
            self.assertEqual((greatest_turn(bill), turn_row(bill)), (best[0], (best[1], 6)))

    def test_the_row_has_it(self):
        for bill in (*BILLS, *WIDE):
            row, number = turn_row(bill)
            self.assertEqual(number, width(bill))
            self.assertLessEqual(len(row), 2 * width(bill) + 2)
            self.assertEqual(turn(bill, row, number), greatest_turn(bill))
            self.assertEqual([row.__class__, number.__class__], [tuple, int])
            self.assertTrue(all(bit.__class__ is int and bit in (0, 1) for bit in row))
            self.assertIs(greatest_turn(bill).__class__, int)

    def test_without_terms(self):
        for own in (-50, -1, 0, 1, 50):
            self.assertEqual((greatest_turn((own, ())), turn_row((own, ()))), (0, ((0, 0, 0), 1)))
            self.assertEqual(turn((own, ()), (5, 9, 7, 2), 1), 0)

    def test_drawn_rows_never_turn_to_more(self):
        chance = random.Random(3)
        for bill in (*BILLS, *WIDE):
            top = greatest_turn(bill)
            for most in (1, 5, 10 ** 6):
                row = tuple(chance.randint(0, most) for _ in range(30))
                turns = [turn(bill, row, number) for number in range(width(bill), 29)]
                self.assertLessEqual(max(turns), most * top)
                self.assertGreaterEqual(min(turns), -most * top)

    def test_it_does_not_hang_on_own(self):
        for bill in (*SMALL, *SIX):
            for own in (-50, 0, 50):
                self.assertEqual(greatest_turn((own, bill[1])), greatest_turn(bill))
                self.assertEqual(turn_row((own, bill[1])), turn_row(bill))

    def test_by_name(self):
        self.assertEqual(greatest_turn(bill=SIX_UP), greatest_turn(SIX_UP))
        self.assertEqual(turn_row(bill=SIX_UP), turn_row(SIX_UP))


class Refused(Case):

    def test_no_bill(self):
        for call, more in ((turned, (None, None)), (turn, ((1, 21), 5)), (greatest_turn, ()), (turn_row, ())):
            for thing in (*NO_TUPLES, (), (1,), (1, (), ())):
                self.refused(BadBill, "part", "form", call, thing, *more)
            for thing in (*NO_INTEGERS, 51, -51):
                self.refused(BadBill, "part", "own", call, (thing, ()), *more)
            self.refused(BadBill, "part", "terms", call, (1, None), *more)
            self.refused(BadBill, "part", 1, call, (1, ((BEST, 0, 0), (BEST, 51, 0))), *more)

    def test_no_row(self):
        for call in (turned, turn):
            for bill in ((0, ()), SIX_UP):
                for thing in (*NO_TUPLES, (0,) * 201):
                    self.refused(BadRow, "number", None, call, bill, thing, None)
                for at in range(9):
                    for thing in (*NO_INTEGERS, -1, 10 ** 6 + 1):
                        self.refused(BadRow, "number", at, call, bill, (1,) * at + (thing,) + (1,) * (8 - at), 6)

    def test_no_number(self):
        for call in (turned, turn):
            for bill in (*SMALL, *SIX):
                wide = width(bill)
                for many in (wide + 2, wide + 5, 200):
                    row = (1,) * many
                    for thing in (*NO_INTEGERS, wide - 1, many - 1, many, -1, -2, 0, -many, 10 ** 59, -10 ** 59):
                        self.refused(BadNumber, "value", thing, call, bill, row, thing)

    def test_rows_that_are_too_short(self):
        for call in (turned, turn):
            for bill in (*SMALL, *SIX):
                for many in range(width(bill) + 2):
                    for number in range(-1, many + 1):
                        self.refused(BadNumber, "value", number, call, bill, (1,) * many, number)

    def test_what_is_refused_first(self):
        for call in (turned, turn):
            self.refused(BadBill, "part", "own", call, (51, ()), (-1,), None)
            self.refused(BadRow, "number", 0, call, (50, ()), (-1,), None)
            self.refused(BadNumber, "value", None, call, row=(1, 2, 3), number=None, bill=(50, ()))
