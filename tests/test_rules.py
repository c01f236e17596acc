"""RULES, ROWS, and the INDEX behind a ROW."""

from itertools import permutations, product

from bestoflast.errors import BadRow, BadRule
from bestoflast.rules import index, indexes, need_row, need_rule
from tests.helper import NO_INTEGERS, NO_TUPLES, Case, copied, rows

RULES = (
    (1,), (-1,), (0,), (20,), (-20,), (20, -20), (0, 0), (1, 2), (0, 1, 1), (0, 1, 0), (1, 0, -1),
    (1, 2, 3, 4), (0, 1, 1, 1, 0), (-20, 3, 0, 7, -1, 20), (0, 0, 0, 0, 0, 0), (20,) * 6,
    (-20,) * 6,
)
ROWS = (
    (), (0,), (10 ** 6,), (0, 10 ** 6), (5, 9, 7, 2), (3,) * 7, (0,) * 200, (10 ** 6,) * 200,
    tuple(range(200)), tuple(range(199, -1, -1)),
)


def by_hand(rule, results):
    """The INDEX of as many RESULTS, told in another way: the least one is taken off each time."""
    left = list(results)
    total = 0
    for weight in rule:
        total += weight * left.pop(left.index(min(left)))
    return total


class NeedRule(Case):

    def test_a_rule_comes_back_itself(self):
        for rule in RULES:
            self.assertIs(need_rule(rule), rule)
            self.assertIs(need_rule(thing=rule), rule)

    def test_every_weight_at_every_place(self):
        for many in range(1, 7):
            for at in range(many):
                for weight in range(-20, 21):
                    rule = (1,) * at + (weight,) + (1,) * (many - at - 1)
                    self.assertIs(need_rule(rule), rule)

    def test_no_tuple(self):
        for thing in NO_TUPLES:
            self.refused(BadRule, "number", None, need_rule, thing)

    def test_too_many_or_none(self):
        for thing in ((), (1,) * 7, (1,) * 8, (0,) * 20000, (None,) * 7, (21,) * 7):
            self.refused(BadRule, "number", None, need_rule, thing)

    def test_lists_are_refused_and_stay_as_they_were(self):
        told = [1, 2]
        self.refused(BadRule, "number", None, need_rule, told)
        self.assertEqual(told, [1, 2])

    def test_no_weight_at_each_place(self):
        bad = (*NO_INTEGERS, 21, -21, 22, 100, -100, 10 ** 59, -10 ** 59)
        for many in range(1, 7):
            for at in range(many):
                for thing in bad:
                    rule = (20,) * at + (thing,) + (-20,) * (many - at - 1)
                    self.refused(BadRule, "number", at, need_rule, rule)

    def test_the_first_of_several_is_told(self):
        for first in range(6):
            for second in range(first + 1, 6):
                weights = [0] * 6
                weights[first] = 21
                weights[second] = None
                self.refused(BadRule, "number", first, need_rule, tuple(weights))
                weights[first] = True
                weights[second] = -21
                self.refused(BadRule, "number", first, need_rule, tuple(weights))


class NeedRow(Case):

    def test_a_row_comes_back_itself(self):
        for row in ROWS:
            self.assertIs(need_row(row), row)
            self.assertIs(need_row(thing=row), row)

    def test_every_length(self):
        for many in range(201):
            row = (0, 10 ** 6) * (many // 2) + (1,) * (many % 2)
            self.assertIs(need_row(row), row)

    def test_no_tuple(self):
        for thing in NO_TUPLES:
            self.refused(BadRow, "number", None, need_row, thing)

    def test_too_many(self):
        for thing in ((1,) * 201, (1,) * 202, (0,) * 20000, (None,) * 201, (-1,) * 201):
            self.refused(BadRow, "number", None, need_row, thing)

    def test_no_result_at_each_place(self):
        bad = (*NO_INTEGERS, -1, 10 ** 6 + 1, -2, -10 ** 6, 10 ** 59, -10 ** 59)
        for thing in bad:
            for many in (1, 2, 7, 200):
                for at in {0, 1, many // 2, many - 1} & set(range(many)):
                    row = (0,) * at + (thing,) + (10 ** 6,) * (many - at - 1)
                    self.refused(BadRow, "number", at, need_row, row)
        for at in range(200):
            self.refused(BadRow, "number", at, need_row, (1,) * at + (-1,) + (1,) * (199 - at))

    def test_the_first_of_several_is_told(self):
        self.refused(BadRow, "number", 1, need_row, (1, -1, None, 10 ** 6 + 1))
        self.refused(BadRow, "number", 1, need_row, (1, None, -1))
        self.refused(BadRow, "number", 0, need_row, (True, -1, 3))
        self.refused(BadRow, "number", 2, need_row, (1, 2, 10 ** 6 + 1, False))


class Index(Case):

    def test_by_hand(self):
        self.assertEqual(index((1,), (5, 9, 7, 2)), 2)
        self.assertEqual(index((-3,), (5, 9, 7, 2)), -6)
        self.assertEqual(index((0, 1), (5, 9, 7, 2)), 7)
        self.assertEqual(index((1, 0), (5, 9, 7, 2)), 2)
        self.assertEqual(index((0, 1, 1), (5, 9, 7, 2)), 16)
        self.assertEqual(index((1, 10, -20), (5, 9, 7, 2)), 2 + 70 - 180)
        self.assertEqual(index((1, 2, 3, 4), (5, 9, 7, 2)), 2 + 10 + 21 + 36)
        self.assertEqual(index((0, 1, 1, 1, 0), (100, 3, 1, 4, 1, 5)), 1 + 3 + 4)
        self.assertEqual(index((-20, 3, 0, 7, -1, 20), (6, 1, 5, 2, 4, 3)), -20 + 6 + 28 - 5 + 120)

    def test_ties(self):
        self.assertEqual(index((1, 2, 3), (4, 4, 4)), 24)
        self.assertEqual(index((1, 2, 3), (7, 4, 4)), 4 + 8 + 21)
        self.assertEqual(index((1, 2, 3), (4, 7, 7)), 4 + 14 + 21)
        self.assertEqual(index((1, 2, 3), (7, 4, 7)), 4 + 14 + 21)
        self.assertEqual(index((5, -5), (0, 0)), 0)

    def test_the_order_of_the_last_ones_does_not_count(self):
        for results in permutations((8, 1, 6, 6)):
            self.assertEqual(index((1, 2, 3, 4), (9, *results)), 1 + 12 + 18 + 32)

    def test_only_the_last_ones_count(self):
        for front in ((), (0,), (10 ** 6,), (1, 2, 3), (10 ** 6,) * 197):
            self.assertEqual(index((1, 2, 3), front + (4, 6, 5)), 4 + 10 + 18)

    def test_the_greatest_and_the_least(self):
        self.assertEqual(index((20,) * 6, (10 ** 6,) * 200), 120 * 10 ** 6)
        self.assertEqual(index((-20,) * 6, (10 ** 6,) * 200), -120 * 10 ** 6)
        self.assertEqual(index((0,) * 6, (10 ** 6,) * 6), 0)

    def test_all_small_rows(self):
        for many in range(1, 5):
            for rule in product((-2, 0, 1, 3), repeat=many):
                for row in product((0, 1, 5), repeat=many):
                    self.assertEqual(index(rule, row), by_hand(rule, row))

    def test_rows_by_chance(self):
        for row in rows(300, 20, 30):
            for rule in RULES:
                if len(row) >= len(rule):
                    told = self.unchanged(index, rule, row)
                    self.assertEqual(told, by_hand(rule, row[-len(rule):]))

    def test_just_long_enough_and_too_short(self):
        for many in range(1, 7):
            rule = (1,) * many
            self.assertEqual(index(rule, (2,) * many), 2 * many)
            for fewer in range(many):
                self.refused(BadRow, "number", None, index, rule, (2,) * fewer)

    def test_by_name(self):
        self.assertEqual(index(rule=(1, 2), row=(3, 1)), 7)
        self.assertEqual(index(row=(3, 1), rule=(1, 2)), 7)

    def test_no_rule(self):
        for call in (index, indexes):
            for thing in NO_TUPLES:
                self.refused(BadRule, "number", None, call, thing, (1, 2))
            self.refused(BadRule, "number", None, call, (), (1, 2))
            self.refused(BadRule, "number", 1, call, (1, 21), (1, 2))

    def test_no_row(self):
        for call in (index, indexes):
            for thing in NO_TUPLES:
                self.refused(BadRow, "number", None, call, (1,), thing)
            self.refused(BadRow, "number", None, call, (1,), (1,) * 201)
            self.refused(BadRow, "number", 0, call, (1,), (-1, 2))
            self.refused(BadRow, "number", 2, call, (1,), (1, 2, 10 ** 6 + 1))
            self.refused(BadRow, "number", 1, call, (1,), (0, True, 2))

    def test_a_result_that_is_none_is_told_ahead_of_the_length(self):
        for call in (index, indexes):
            self.refused(BadRow, "number", 1, call, (1, 2, 3), (1, None))

    def test_the_first_argument_is_told_first(self):
        for call in (index, indexes):
            for row in ((), None, (-1,), (1,) * 201):
                self.refused(BadRule, "number", None, call, [], row)
                self.refused(BadRule, "number", 0, call, (None, 2, 3), row)
                self.refused(BadRule, "number", 2, call, (1, 2, -21), row)
                self.refused(BadRule, "number", 2, call, row=row, rule=(1, 2, -21))


class Indexes(Case):

    def test_by_hand(self):
        self.assertEqual(indexes((0, 1, 1), (5, 9, 7, 2)), (16, 16))
        self.assertEqual(indexes((1,), (5, 9, 7, 2)), (5, 9, 7, 2))
        self.assertEqual(indexes((1, -1), (5, 9, 7, 7, 2)), (-4, -2, 0, -5))
        self.assertEqual(indexes((1, 2, 3), (4, 6, 5, 5)), (4 + 10 + 18, 5 + 10 + 18))

    def test_just_long_enough_and_too_short(self):
        for many in range(1, 7):
            rule = (1,) * many
            self.assertEqual(indexes(rule, (2,) * (many + 1)), (2 * many, 2 * many))
            self.assertEqual(indexes(rule, (2,) * many), (2 * many,))
            for fewer in range(many):
                self.assertEqual(indexes(rule, (2,) * fewer), ())

    def test_each_is_the_index_behind_the_results_up_to_it(self):
        for row in rows(100, 20, 9, seed=2):
            for rule in RULES:
                told = self.unchanged(indexes, rule, row)
                ends = range(len(rule), len(row) + 1)
                self.assertIsInstance(told, tuple)
                self.assertEqual(told, tuple(index(rule, row[:end]) for end in ends))

    def test_the_longest_row(self):
        told = indexes((1, 0), tuple(range(200)))
        self.assertEqual(told, tuple(range(199)))

    def test_by_name(self):
        self.assertEqual(indexes(row=(3, 1, 2), rule=(1, 2)), (7, 5))

    def test_rows_stay_as_they_were(self):
        told = ([1], (3, 1, 2))
        before = copied(told)
        self.refused(BadRule, "number", None, indexes, *told)
        self.assertEqual(told, before)
