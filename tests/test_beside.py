"""Indexes beside one another: never_above, above_row, suits."""

import random
from fractions import Fraction
from itertools import product

from bestoflast.beside import above_row, never_above, suits
from bestoflast.errors import BadNumber, BadRule
from bestoflast.rules import index
from tests.helper import NO_INTEGERS, NO_TUPLES, Case
from tests.search import told
from tests.test_rules import by_hand

BEST = (0, 1, 1)
NO_ROUNDS = (*NO_INTEGERS, -1, 7, 8, 200, 10 ** 59, -10 ** 59)
BY_HAND = (
    # Two RULES and ROUNDS, the first row by which the first INDEX is greater, and what suits.
    ((1,), (1,), 0, None, (None, (1, 1))),
    ((1,), (2,), 0, None, (None, (1, 2))),
    ((2,), (1,), 0, (1,), (None, (2, 1))),
    ((1,), (0,), 0, (1,), (None, None)),
    ((0,), (1,), 0, None, (None, (0, 1))),
    ((-1,), (1,), 0, None, (None, (-1, 1))),
    ((-3,), (2,), 0, None, (None, (-3, 2))),
    ((1,), (-1,), 0, (1,), ((-1, 1), None)),
    ((4,), (-6,), 0, (1,), ((-2, 3), None)),
    ((-4,), (-6,), 0, (1,), ((2, 3), None)),
    ((-1,), (0,), 0, None, None),
    ((0,), (0,), 0, None, (None, None)),
    # The least and the greatest of two, the first one of which is never above the other one.
    ((1, 0), (0, 1), 0, None, (None, (0, 1))),
    ((0, 1), (1, 0), 0, (0, 1), (None, (1, 1))),
    # One RESULT later, what was the greater one may be gone.
    ((1, 0), (0, 1), 1, None, (None, (0, 1))),
    ((1, 0), (0, 1), 2, (1, 1, 0, 0), (None, (0, 1))),
    ((1,), (1,), 1, (1, 0), (None, (0, 1))),
    ((1,), (0, 1), 1, None, (None, (0, 1))),
    ((1,), (0, 1), 2, (0, 1, 0, 0), (None, (0, 1))),
    # 1 for one 1 and 0 for two, beside -1 and 1.
    ((-1, 1), (2, -1), 0, (0, 1), ((-1, 1), (0, 1))),
    # What is 1 for one 1 has to be at least F, and -1 for two at least F times -1.
    ((-2, 1), (-2, 1), 0, None, ((1, 1), (1, 1))),
    # None suits: F is at most 1 and at least 2.
    ((-3, 1), (-2, 1), 0, None, None),
    ((-3, 2), (-2, 1), 0, (0, 1), ((1, 1), (2, 1))),
    ((5, -5), (0, 1), 0, None, (None, (-5, 1))),
    ((0, 0, 0, 0, 0, 1), (1,), 6, (0, 0, 0, 0, 0, 1, 0, 0, 0, 0, 0, 0), (None, (0, 1))),
)


def drawn(many, seed, most=6, weight=4):
    """Pairs of RULES by chance, and ROUNDS."""
    chance = random.Random(seed)
    found = []
    for _ in range(many):
        rules = [
            tuple(chance.randint(-weight, weight) for _ in range(chance.randint(1, most))) for _ in range(2)
        ]
        found.append((*rules, chance.randint(0, 6)))
    return found


def near(many, seed):
    """Pairs of RULES by chance of which the second one is near so much times the first one."""
    chance = random.Random(seed)
    found = []
    for rule, _, _ in drawn(many, seed, 4, 3):
        times = chance.choice((1, 1, 2, -1, -2))
        found.append((rule, tuple(times * weight + (chance.random() < 0.2) for weight in rule), 0))
    return found


def pairs_by_search(rule, other, rounds):
    """For all bits: these, and both INDEXES."""
    wide = max(len(rule), len(other))
    for bits in product((0, 1), repeat=wide + rounds):
        row = bits[:wide]
        yield bits, by_hand(rule, row[wide - len(rule):]), by_hand(other, bits[len(bits) - len(other):])


def suits_by_search(rule, other, rounds):
    """The least and the greatest fraction that suits, by all bits, each one tried."""
    pairs = {(one, two) for _, one, two in pairs_by_search(rule, other, rounds)}
    bounds = {Fraction(one, two) for one, two in pairs if two != 0} | {Fraction(0)}

    def does_suit(fraction):
        return all(one >= fraction * two for one, two in pairs)

    suiting = sorted(filter(does_suit, bounds))
    if not suiting:
        return None
    least, greatest = told(suiting[0]), told(suiting[-1])
    return None if does_suit(Fraction(-1000)) else least, None if does_suit(Fraction(1000)) else greatest


class NeverAbove(Case):

    def test_by_hand(self):
        for rule, other, rounds, row, _ in BY_HAND:
            self.assertEqual(self.unchanged(above_row, rule, other, rounds), row, (rule, other, rounds))
            self.assertIs(self.unchanged(never_above, rule, other, rounds), row is None)

    def test_against_all_bits(self):
        found = []
        for rule, other, rounds in (*drawn(60, 1, 3), *drawn(15, 2), *near(60, 3)):
            first = None
            for bits, one, two in pairs_by_search(rule, other, rounds):
                if one > two:
                    first = bits
                    break
            self.assertEqual(above_row(rule, other, rounds), first, (rule, other, rounds))
            self.assertIs(never_above(rule, other, rounds), first is None)
            found.append(first is None)
        self.assertGreater(found.count(True), 10)
        self.assertGreater(found.count(False), 10)

    def test_every_rounds(self):
        for rounds in range(7):
            # A 1 of the first row is in the last six for six rounds.
            self.assertEqual(never_above((1,), (0, 0, 0, 0, 0, 1), rounds), rounds < 6)
            self.assertEqual(never_above((1,), (0, 0, 0, 1), rounds), rounds < 4)
            self.assertEqual(len(above_row((2,), (0, 0, 1), rounds)), 3 + rounds)
            self.assertTrue(never_above((0,) * 6, (0,), rounds))
            self.assertIsNone(above_row((0,) * 6, (0,), rounds))

    def test_against_drawn_results(self):
        chance = random.Random(5)
        for rule, other, rounds in (*drawn(60, 6), *near(60, 7)):
            wide = max(len(rule), len(other))
            if never_above(rule, other, rounds):
                for _ in range(20):
                    row = tuple(chance.randint(0, 9) for _ in range(wide + rounds))
                    self.assertLessEqual(index(rule, row[:wide]), index(other, row))

    def test_kinds(self):
        for rule, other, rounds, _, _ in BY_HAND:
            self.assertIs(never_above(rule, other, rounds).__class__, bool)
            row = above_row(rule, other, rounds)
            if row is not None:
                self.assertIs(row.__class__, tuple)
                self.assertTrue(all(bit.__class__ is int for bit in row))

    def test_six_weights(self):
        self.assertEqual(above_row((20,) * 6, (-20,) * 6, 6), (0,) * 11 + (1,))
        self.assertEqual(above_row((20,) * 6, (0,) * 6, 6), (0,) * 5 + (1,) + (0,) * 6)
        self.assertIsNone(above_row((1, 0, 0, 0, 0, 0), (0, 0, 0, 0, 0, 1), 5))
        self.assertEqual(above_row((1, 0, 0, 0, 0, 0), (0, 0, 0, 0, 0, 1), 6), (1,) * 6 + (0,) * 6)


class Suits(Case):

    def test_by_hand(self):
        for rule, other, rounds, _, wanted in BY_HAND:
            self.assertEqual(self.unchanged(suits, rule, other, rounds), wanted, (rule, other, rounds))

    def test_against_all_bits(self):
        found = []
        for rule, other, rounds in (*drawn(80, 8, 3, 2), *drawn(15, 9), *near(80, 10)):
            found.append(suits(rule, other, rounds))
            self.assertEqual(found[-1], suits_by_search(rule, other, rounds), (rule, other, rounds))
        self.assertIn(None, found)
        pairs = [pair for pair in found if pair is not None]
        for kind in (
            lambda one, two: one is None and two is not None, lambda one, two: one is not None and two is None,
            lambda one, two: one is None and two is None, lambda one, two: None not in (one, two) and one != two,
            lambda one, two: one is not None and one == two,
        ):
            self.assertTrue([pair for pair in pairs if kind(*pair)])
        ends = [end for pair in pairs for end in pair if end is not None]
        for kind in (
            lambda part, of: part < 0, lambda part, of: part == 0, lambda part, of: part > 0, lambda part, of: of > 1,
        ):
            self.assertTrue([end for end in ends if kind(*end)])
        for part, of in ends:
            self.assertEqual(told(Fraction(part, of)), (part, of))
            self.assertEqual([part.__class__, of.__class__], [int, int])

    def test_against_drawn_results(self):
        chance = random.Random(11)
        for rule, other, rounds in (*drawn(60, 12), *near(60, 13)):
            wide = max(len(rule), len(other))
            for end in suits(rule, other, rounds) or ():
                for _ in range(10):
                    row = tuple(chance.randint(0, 9) for _ in range(wide + rounds))
                    if end is not None:
                        self.assertGreaterEqual(end[1] * index(rule, row[:wide]), end[0] * index(other, row))

    def test_an_index_of_0(self):
        # Any FRACTION suits a RULE that is 0 for all, if the first one is never below 0.
        self.assertEqual(suits((1, 2, 3), (0, 0)), (None, None))
        self.assertEqual(suits((-1, 2, 3), (0, 0, 0)), (None, None))
        self.assertIsNone(suits((-6, 2, 3), (0, 0, 0)))
        self.assertIsNone(suits((1, -1), (1, 0)))
        self.assertEqual(suits((-1, 1), (1, 0)), (None, (0, 1)))


class Refused(Case):

    def test_rounds_left_out_are_0(self):
        for rule, other, _ in (*drawn(40, 14), *near(40, 15)):
            for call in (never_above, above_row, suits):
                self.assertEqual(call(rule, other), call(rule, other, 0))
                self.assertEqual(call(rule, other), call(rule, other, rounds=0))
                self.assertEqual(call(other=other, rule=rule), call(rule, other, 0))
                self.assertEqual(call(rounds=3, other=other, rule=rule), call(rule, other, 3))

    def test_no_rules(self):
        for call in (never_above, above_row, suits):
            for thing in (*NO_TUPLES, (), (1,) * 7):
                self.refused(BadRule, "number", None, call, thing, (1,))
                self.refused(BadRule, "number", None, call, (1,), thing)
                self.refused(BadRule, "number", None, call, other=thing, rounds=None, rule=BEST)
            for at in range(6):
                for thing in (*NO_INTEGERS, 21, -21):
                    wrong = (1,) * at + (thing,) + (1,) * (5 - at)
                    self.refused(BadRule, "number", at, call, wrong, (1,), 1)
                    self.refused(BadRule, "number", at, call, (1,), wrong, 1)

    def test_no_rounds(self):
        for call in (never_above, above_row, suits):
            for thing in NO_ROUNDS:
                self.refused(BadNumber, "value", thing, call, BEST, (1,), thing)
                self.refused(BadNumber, "value", thing, call, BEST, (1,), rounds=thing)
            for rounds in range(7):
                call(BEST, (1,), rounds)

    def test_what_is_refused_first(self):
        for call in (never_above, above_row, suits):
            self.refused(BadRule, "number", 1, call, (1, 21), (22,), 7)
            self.refused(BadRule, "number", 0, call, (1, 20), (22,), 7)
            self.refused(BadRule, "number", None, call, None, (22,), None)
            self.refused(BadNumber, "value", 7, call, (1, 20), (2,), 7)
