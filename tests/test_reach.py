"""What can come next: reach, greatest_way, soonest, rise, fall, rise_row."""

import random
from itertools import product

from bestoflast.errors import BadNumber, BadRow, BadRule
from bestoflast.reach import fall, greatest_way, reach, rise, rise_row, soonest
from bestoflast.rules import index
from tests.helper import NO_INTEGERS, NO_TUPLES, Case
from tests.test_rules import by_hand

BEST = (0, 1, 1)
SIX = (-20, 3, 0, 7, -1, 20)
RULES = (
    (1,), (-1,), (0,), (20,), (0, 1), (1, 0), (1, -1), (-2, 1), BEST, (0, 1, 0), (2, -3, 2), (1, 0, 0, -1),
    (-1, 2, -2, 1), (3, -1, -1, 3), (0, 0, 0, 0), SIX, (0, 0, 0, 1, 1, 1), (1, -1, 1, -1, 1, -1), (5, -4, 3, -3, 4, -5),
)
NO_MOST = (*NO_INTEGERS, -1, 10 ** 6 + 1, 10 ** 7, 10 ** 59, -10 ** 59)
NO_ROUNDS = (*NO_INTEGERS, -1, 201, 10 ** 6, 10 ** 59, -10 ** 59)
BY_HAND = (
    # A RULE, a ROW, MOST and ROUNDS, and REACH.
    (BEST, (5, 9, 7), 8, 0, (16, 16)),
    (BEST, (5, 9, 7), 8, 1, (16, 17)),
    (BEST, (5, 9, 7), 8, 2, (7, 16)),
    (BEST, (5, 9, 7), 8, 3, (0, 16)),
    (BEST, (5, 9, 7), 8, 200, (0, 16)),
    (BEST, (5, 9, 7), 100, 1, (16, 109)),
    (BEST, (5, 9, 7), 0, 1, (16, 16)),
    (BEST, (5, 9, 7), 0, 2, (7, 7)),
    (BEST, (5, 9, 7), 0, 3, (0, 0)),
    ((1,), (5,), 8, 0, (5, 5)),
    ((1,), (5,), 8, 1, (0, 8)),
    ((-1,), (3, 5), 8, 1, (-8, 0)),
    # The greater one less the lesser, beside a 5 that stays: 5 at once, or as much as there is above.
    ((-1, 1), (0, 5), 8, 1, (0, 5)),
    ((-1, 1), (0, 5), 12, 1, (0, 7)),
    # The middle one of 4, 6 and a further one.
    ((0, 1, 0), (9, 4, 6), 9, 1, (4, 6)),
    # It is least, or greatest, where the further one is the same as one that stays.
    ((1, -2, 1), (0, 4, 6), 9, 1, (-2, 2)),
    ((-1, 2, -1), (0, 4, 6), 9, 1, (-2, 2)),
    ((20,) * 6, (10 ** 6,) * 200, 10 ** 6, 200, (0, 120 * 10 ** 6)),
    ((-20,) * 6, (10 ** 6,) * 200, 10 ** 6, 3, (-120 * 10 ** 6, -60 * 10 ** 6)),
)


def all_indexes(rule, row, most, rounds):
    """For all further RESULTS: these, and the INDEX behind them."""
    for more in product(range(most + 1), repeat=rounds):
        yield more, by_hand(rule, (row + more)[len(row) + rounds - len(rule):])


def drawn(many, seed, most=4, longest=4):
    """By chance: a RULE, a ROW of at least N RESULTS, MOST."""
    chance = random.Random(seed)
    found = []
    for _ in range(many):
        rule = tuple(chance.randint(-3, 3) for _ in range(chance.randint(1, longest)))
        row = tuple(chance.randint(0, 6) for _ in range(chance.randint(len(rule), len(rule) + 3)))
        found.append((rule, row, chance.randint(0, most)))
    return found


class Reach(Case):

    def test_by_hand(self):
        for rule, row, most, rounds, wanted in BY_HAND:
            self.assertEqual(self.unchanged(reach, rule, row, most, rounds), wanted, (rule, row, most, rounds))

    def test_against_all_further_results(self):
        for rule, row, most in drawn(150, 1):
            for rounds in range(len(rule) + 2 if most < 4 else 4):
                indexes = [one for _, one in all_indexes(rule, row, most, rounds)]
                told = reach(rule, row, most, rounds)
                self.assertEqual(told, (min(indexes), max(indexes)), (rule, row, most, rounds))

    def test_six_weights_against_all_further_results(self):
        row = (3, 0, 2, 3, 1, 4, 2)
        for rule in (SIX, (1, -1, 1, -1, 1, -1), (5, -4, 3, -3, 4, -5)):
            for most, rounds in ((0, 6), (1, 6), (1, 7), (2, 5), (3, 4), (4, 3), (5, 3), (6, 2), (9, 1), (9, 0)):
                indexes = [one for _, one in all_indexes(rule, row, most, rounds)]
                self.assertEqual(reach(rule, row, most, rounds), (min(indexes), max(indexes)))

    def test_drawn_results_never_leave_it(self):
        chance = random.Random(2)
        for rule in RULES:
            row = tuple(chance.randint(0, 10 ** 6) for _ in range(chance.randint(len(rule), 150)))
            for rounds in (0, 1, 2, 5, 6, 50):
                most = chance.choice((10 ** 6, 500000, 1, 0))
                least, greatest = reach(rule, row, most, rounds)
                for _ in range(10):
                    more = tuple(chance.choice((0, most, chance.randint(0, most))) for _ in range(rounds))
                    self.assertLessEqual(least, index(rule, (row + more)[-10:]))
                    self.assertLessEqual(index(rule, (row + more)[-10:]), greatest)

    def test_with_n_rounds_or_more_it_is_always_the_same(self):
        for rule in RULES:
            for row in ((5,) * len(rule), (10 ** 6, 0, 3, 7, 0, 9, 1)):
                for most in (0, 1, 7, 10 ** 6):
                    least, greatest = reach(rule, (0,) * 6, 1, len(rule))
                    for rounds in range(len(rule), len(rule) + 9):
                        self.assertEqual(reach(rule, row, most, rounds), (most * least, most * greatest))
                    self.assertEqual(reach(rule, row, most, 200), (most * least, most * greatest))

    def test_no_rounds_is_the_index(self):
        for rule, row, most in drawn(50, 3):
            self.assertEqual(reach(rule, row, most, 0), (index(rule, row),) * 2)

    def test_kinds(self):
        for rule, row, most, rounds, _ in BY_HAND:
            told = reach(rule, row, most, rounds)
            self.assertIs(told.__class__, tuple)
            self.assertEqual([one.__class__ for one in told], [int, int])

    def test_by_name(self):
        self.assertEqual(reach(rounds=1, most=8, row=(5, 9, 7), rule=BEST), (16, 17))


class GreatestWay(Case):

    def test_it_comes_to_the_greatest_index(self):
        for rule, row, most in (*drawn(150, 4), *[(rule, (7, 0, 10 ** 6, 9, 2, 1), 10 ** 6) for rule in RULES]):
            for rounds in (0, 1, 2, 3, 4, 5, 6, 7, 12):
                way = self.unchanged(greatest_way, rule, row, most, rounds)
                self.assertIs(way.__class__, tuple)
                self.assertEqual(len(way), rounds)
                self.assertTrue(all(result.__class__ is int and 0 <= result <= most for result in way))
                self.assertEqual(index(rule, row + way), reach(rule, row, most, rounds)[1])

    def test_200_rounds(self):
        for rule in RULES:
            way = greatest_way(rule, (3,) * 200, 10 ** 6, 200)
            self.assertEqual(len(way), 200)
            self.assertEqual(index(rule, way), reach(rule, (3,) * 200, 10 ** 6, 200)[1])

    def test_by_name(self):
        self.assertEqual(greatest_way(most=8, rounds=1, row=(5, 9, 7), rule=BEST), (8,))
        self.assertEqual(greatest_way(BEST, (5, 9, 7), 8, 0), ())


class Soonest(Case):

    def test_by_hand(self):
        for goal, wanted in ((-10 ** 59, 0), (-1, 0), (0, 0), (16, 0), (17, 1), (18, None), (10 ** 59, None)):
            self.assertEqual(self.unchanged(soonest, BEST, (5, 9, 7), 8, goal), wanted, goal)
        for goal, wanted in ((16, 0), (17, 1), (109, 1), (110, 2), (200, 2), (201, None)):
            self.assertEqual(soonest(BEST, (5, 9, 7), 100, goal), wanted, goal)
        # A RESULT that takes away is gone with the third one.
        for goal, wanted in ((-9, 0), (-8, 1), (-4, 1), (-3, 2), (-2, 2), (-1, 3), (0, 3), (1, None)):
            self.assertEqual(soonest((0, 0, -1), (9, 4, 2), 3, goal), wanted, goal)

    def test_against_all_further_results(self):
        found = []
        for rule, row, most in drawn(60, 5, most=3, longest=3):
            greatest = [
                max(one for _, one in all_indexes(rule, row, most, rounds)) for rounds in range(len(rule) + 3)
            ]
            for goal in (*range(min(greatest) - 2, max(greatest) + 3), 10 ** 59, -10 ** 59):
                wanted = [rounds for rounds, one in enumerate(greatest) if one >= goal]
                found.append(soonest(rule, row, most, goal))
                self.assertEqual(found[-1], wanted[0] if wanted else None, (rule, row, most, goal))
        self.assertEqual({*found}, {0, 1, 2, 3, None})

    def test_six_weights(self):
        row = (10 ** 6,) * 200
        rule = (-1, 0, 0, 0, 0, 0)
        for goal, wanted in ((-10 ** 6, 0), (-10 ** 6 + 1, 1), (0, 1), (1, None)):
            self.assertEqual(soonest(rule, row, 10 ** 6, goal), wanted)
        rule = (0, 0, 0, 0, 0, -1)
        for goal, wanted in ((-10 ** 6, 0), (-10 ** 6 + 1, 6), (0, 6), (1, None)):
            self.assertEqual(soonest(rule, row, 10 ** 6, goal), wanted)

    def test_by_name(self):
        self.assertEqual(soonest(goal=17, most=8, row=(5, 9, 7), rule=BEST), 1)

    def test_no_goal(self):
        for thing in NO_INTEGERS:
            self.refused(BadNumber, "value", thing, soonest, BEST, (5, 9, 7), 8, thing)


class Rise(Case):

    def rise_by_search(self, rule, rounds):
        """The rise, the first row of it, and the fall."""
        wide = len(rule)
        found = [
            (by_hand(rule, row[rounds:]) - by_hand(rule, row[:wide]), row)
            for row in product((0, 1), repeat=wide + rounds)
        ]
        most = max(one for one, _ in found)
        return most, [row for one, row in found if one == most][0], -min(one for one, _ in found)

    def test_against_all_bits(self):
        chance = random.Random(6)
        rules = [tuple(chance.randint(-3, 3) for _ in range(many)) for many in (1, 2, 3, 4, 5, 6) for _ in range(6)]
        for rule in (*RULES, *rules):
            for rounds in range(10 - len(rule)):
                most, row, least = self.rise_by_search(rule, rounds)
                self.assertEqual(self.unchanged(rise, rule, rounds), most, (rule, rounds))
                self.assertEqual(self.unchanged(rise_row, rule, rounds), row, (rule, rounds))
                self.assertEqual(self.unchanged(fall, rule, rounds), least, (rule, rounds))

    def test_six_weights_against_all_bits(self):
        for rule in (SIX, (1, -1, 1, -1, 1, -1)):
            for rounds in (5, 6, 7):
                self.assertEqual(
                    (rise(rule, rounds), rise_row(rule, rounds), fall(rule, rounds)), self.rise_by_search(rule, rounds),
                )

    def test_by_hand(self):
        self.assertEqual([rise(BEST, rounds) for rounds in (0, 1, 2, 3, 200)], [0, 1, 2, 2, 2])
        self.assertEqual([fall(BEST, rounds) for rounds in (0, 1, 2, 3, 200)], [0, 1, 2, 2, 2])
        self.assertEqual(rise_row(BEST, 0), (0, 0, 0))
        self.assertEqual(rise_row(BEST, 1), (0, 0, 0, 1))
        self.assertEqual(rise_row(BEST, 2), (0, 0, 0, 1, 1))
        self.assertEqual(rise_row(BEST, 4), (0, 0, 0, 0, 0, 1, 1))
        # It falls by 5 and rises by 2: from 2 for one 1, or to -3 for two.
        self.assertEqual((rise((-5, 2), 2), rise((-5, 2), 1), fall((-5, 2), 2), fall((-5, 2), 1)), (5, 5, 5, 5))
        self.assertEqual(rise_row((-5, 2), 1), (1, 1, 0))
        self.assertEqual(rise_row((-5, 2), 2), (1, 1, 0, 1))
        self.assertEqual(rise_row((-5, 2), 3), (1, 1, 0, 0, 1))

    def test_more_rounds_than_n(self):
        for rule in RULES:
            levels = [index(rule, (0,) * (len(rule) - ones) + (1,) * ones) for ones in range(len(rule) + 1)]
            for rounds in (len(rule), len(rule) + 1, 50, 199, 200):
                self.assertEqual(rise(rule, rounds), max(levels) - min(levels))
                self.assertEqual(fall(rule, rounds), max(levels) - min(levels))
                row = rise_row(rule, rounds)
                self.assertEqual(len(row), len(rule) + rounds)
                self.assertEqual(
                    index(rule, row[-len(rule):]) - index(rule, row[:len(rule)]), rise(rule, rounds),
                )
                self.assertEqual(row[len(rule):rounds], (0,) * (rounds - len(rule)))

    def test_most_times_it_for_all_results(self):
        chance = random.Random(7)
        for rule in RULES:
            for rounds in range(8):
                for most in (1, 3, 10 ** 6):
                    for _ in range(5):
                        row = tuple(chance.randint(0, most) for _ in range(len(rule) + rounds))
                        moved = index(rule, row) - index(rule, row[:len(rule)])
                        self.assertLessEqual(moved, most * rise(rule, rounds))
                        self.assertLessEqual(-moved, most * fall(rule, rounds))

    def test_kinds(self):
        for rule in RULES:
            for rounds in (0, 1, 6, 200):
                self.assertEqual([call(rule, rounds).__class__ for call in (rise, fall, rise_row)], [int, int, tuple])
                self.assertTrue(all(bit.__class__ is int and bit in (0, 1) for bit in rise_row(rule, rounds)))

    def test_by_name(self):
        for call in (rise, fall, rise_row):
            self.assertEqual(call(rounds=2, rule=BEST), call(BEST, 2))


class Refused(Case):

    def test_no_rule(self):
        for call, more in (
            (reach, (None, None, None)), (greatest_way, ((), -1, -1)), (soonest, ((), -1, None)), (rise, (None,)),
            (fall, (-1,)), (rise_row, (201,)),
        ):
            for thing in (*NO_TUPLES, (), (1,) * 7):
                self.refused(BadRule, "number", None, call, thing, *more)
            for at in range(6):
                for thing in (*NO_INTEGERS, 21, -21):
                    self.refused(BadRule, "number", at, call, (1,) * at + (thing,) + (1,) * (5 - at), *more)

    def test_no_row(self):
        for call in (reach, greatest_way, soonest):
            for thing in (*NO_TUPLES, (), (1,), (1, 2), (0,) * 201):
                self.refused(BadRow, "number", None, call, BEST, thing, None, None)
            for many in range(6):
                self.refused(BadRow, "number", None, call, SIX, (1,) * many, 1, 1)
            for at in range(4):
                for thing in (*NO_INTEGERS, -1, 10 ** 6 + 1):
                    row = (1,) * at + (thing,) + (1,) * (3 - at)
                    self.refused(BadRow, "number", at, call, BEST, row, -1, -1)
            # What is no RESULT is told ahead of a row that is too short.
            self.refused(BadRow, "number", 1, call, BEST, (1, None), 1, 1)

    def test_no_most(self):
        for call in (reach, greatest_way, soonest):
            for thing in NO_MOST:
                self.refused(BadNumber, "value", thing, call, BEST, (5, 9, 7), thing, None)
            for most in (0, 1, 10 ** 6):
                call(BEST, (5, 9, 7), most, 1)

    def test_no_rounds(self):
        for call in (reach, greatest_way):
            for thing in NO_ROUNDS:
                self.refused(BadNumber, "value", thing, call, BEST, (5, 9, 7), 1, thing)
            call(BEST, (5, 9, 7), 1, 200)
        for call in (rise, fall, rise_row):
            for thing in NO_ROUNDS:
                self.refused(BadNumber, "value", thing, call, BEST, thing)
                self.refused(BadNumber, "value", thing, call, rounds=thing, rule=BEST)
            call(BEST, 200)

    def test_what_is_refused_first(self):
        for call in (reach, greatest_way, soonest):
            self.refused(BadRule, "number", 0, call, (21,), (-1,), -1, None)
            self.refused(BadRow, "number", 0, call, (20,), (-1,), -1, None)
            self.refused(BadNumber, "value", -1, call, (20,), (1,), -1, None)
            self.refused(BadNumber, "value", None, call, (20,), (1,), 1, None)
