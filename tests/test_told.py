"""Weights told back: does_tell, telling_row, rule_told, fitting, best_ask."""

import random
from itertools import product

from bestoflast.errors import BadNumber, BadRow, Nothing
from bestoflast.rules import index, indexes
from bestoflast.told import best_ask, does_tell, fitting, rule_told, telling_row
from tests.helper import NO_INTEGERS, NO_TUPLES, Case, rows
from tests.search import NO_BITS

BEST = (0, 1, 1)
SIX = (-20, 3, 0, 7, -1, 20)
RULES = (
    (1,), (-20,), (0,), (1, -1), (20, -20), BEST, (0, 1, 0), (5, -3, 2), (1, 2, 3, 4), (0, 0, 0, 0), (-1, 1, -1, 1, -1),
    SIX, (20,) * 6, (-20,) * 6, (1, 2, 3, 4, 5, 6),
)
NO_MANY = (*NO_INTEGERS, 0, -1, 7, 8, 200, 10 ** 59, -10 ** 59)
NO_SIZES = (*NO_INTEGERS, 0, -1, 1, 5, 11, 12, 200, 10 ** 59, -10 ** 59)
NO_MENUS = (
    *NO_TUPLES, (), (BEST,) * 21, (1,), (1, 2), BEST, [BEST], ((),), ((1,) * 7,), (BEST, None), (BEST, [0, 1, 1]),
    (BEST, (0, 21)), (BEST, (0, True)), (None,) * 20, (BEST,) * 19 + ((-21,),), ((BEST,),),
)
PAIR = ((5, 9, 7), 16)
NO_SEEN = (
    *NO_TUPLES, (PAIR,) * 51, PAIR, (1,), ((),), ((1, 2, 3),), [PAIR], ([PAIR[0], 16],), (PAIR, None), (None, PAIR),
    (((5, 9, 7),),), (((5, 9, 7), 16, 1),), (((5, 9, -7), 16),), (((5, 9, 10 ** 6 + 1), 16),), (((5, True, 7), 16),),
    (((0,) * 201, 0),), (([5, 9, 7], 16),), ((None, 16),), ((16, (5, 9, 7)),), (PAIR,) * 49 + (((1,), True),),
    *[(PAIR, ((5, 9, 7), thing)) for thing in NO_INTEGERS],
)


def small_rules(many, weights=(-1, 0, 1)):
    """All RULES of so many weights, of these."""
    return list(product(weights, repeat=many))


def tells_by_search(row, many):
    """Whether unlike small RULES have unlike rows of INDEXES."""
    told = [indexes(rule, row) for rule in small_rules(many)]
    return len({*told}) == len(told)


def bit_rows(many):
    """All rows of so many bits, ascending."""
    return product((0, 1), repeat=many)


def ask_by_search(menu, seen, size):
    """The first row of so many bits whose greatest lot is least, or None."""
    fits = [
        rule for rule in menu if all(len(row) >= len(rule) and index(rule, row) == number for row, number in seen)
    ]
    best = None
    for row in bit_rows(size):
        told = [index(rule, row) for rule in fits]
        lot = max((told.count(one) for one in told), default=0)
        if best is None or lot < best[0]:
            best = (lot, row)
    return None if len(fits) <= 1 or best[0] == len(fits) else best[1]


def menus_by_chance(many, seed):
    """Menus by chance, with equal RULES in some of them."""
    chance = random.Random(seed)
    found = []
    for _ in range(many):
        rules = [
            tuple(chance.randint(-2, 2) for _ in range(chance.randint(1, 6))) for _ in range(chance.randint(1, 8))
        ]
        found.append(tuple(chance.choice(rules) for _ in range(chance.choice((1, 2, 3, 5, 20)))))
    return found


class DoesTell(Case):

    def test_by_hand(self):
        for row, many, wanted in (
            ((), 1, False), ((0,), 1, False), ((1,), 1, True), ((0, 0, 0), 1, False), ((0, 1, 0), 1, True),
            ((0, 1), 2, False), ((1, 1), 2, False), ((0, 1, 1), 2, True), ((1, 1, 0), 2, True), ((1, 0, 1), 2, False),
            ((0, 0, 1, 1, 1), 3, True), ((0, 0, 1, 1), 3, False), ((0, 1, 0, 1, 1, 1), 3, True),
            ((1, 0, 0, 1, 1, 0), 3, False), ((1,) * 200, 2, False), ((1,) * 199 + (0,), 2, True),
            ((1,) * 200, 1, True), ((0,) * 194 + (1,) * 6, 6, True), ((0,) * 195 + (1,) * 5, 6, False),
            ((0, 1) * 100, 6, False), ((1,), 6, False),
        ):
            self.assertIs(self.unchanged(does_tell, row, many), wanted, (row, many))

    def test_against_small_rules(self):
        found = []
        for many in (1, 2, 3):
            for length in range(2 * many + 3):
                for row in bit_rows(length):
                    found.append(does_tell(row, many))
                    self.assertEqual(found[-1], tells_by_search(row, many), (row, many))
        self.assertGreater(found.count(True), 50)
        self.assertGreater(found.count(False), 50)

    def test_more_weights_against_small_rules(self):
        chance = random.Random(1)
        found = []
        for many in (4, 5):
            for _ in range(20):
                row = tuple(chance.randint(0, 1) for _ in range(chance.randint(many, 4 * many)))
                found.append(does_tell(row, many))
                self.assertEqual(found[-1], tells_by_search(row, many), (row, many))
        self.assertEqual({*found}, {True, False})

    def test_by_name(self):
        self.assertIs(does_tell(many=2, row=(0, 1, 1)), True)

    def test_no_row(self):
        for call, more in ((does_tell, (None,)), (rule_told, (None,))):
            for thing in (*NO_TUPLES, (0,) * 201, (2,) * 201):
                self.refused(BadRow, "number", None, call, thing, *more)
            for at in range(5):
                for thing in (*NO_BITS, 10 ** 6, 10 ** 6 + 1):
                    self.refused(BadRow, "number", at, call, (1,) * at + (thing,) + (0,) * (4 - at), *more)
            # A RESULT that is no bit is told of a ROW alone.
            self.refused(BadRow, "number", 1, call, (0, 5, 7), *more)
            self.refused(BadRow, "number", 2, call, (0, 5, -1), *more)

    def test_no_many(self):
        for thing in NO_MANY:
            self.refused(BadNumber, "value", thing, does_tell, (0, 1), thing)
            self.refused(BadNumber, "value", thing, telling_row, thing)
            self.refused(BadNumber, "value", thing, telling_row, many=thing)
        self.refused(BadRow, "number", 0, does_tell, (2,), 7)


class TellingRow(Case):

    def test_against_all_rows(self):
        for many in range(1, 7):
            first = None
            for length in range(14):
                told = [row for row in bit_rows(length) if does_tell(row, many)]
                if told:
                    first = told[0]
                    break
            self.assertEqual(self.unchanged(telling_row, many), first)

    def test_against_small_rules(self):
        for many in (1, 2, 3):
            shorter = [row for length in range(2 * many - 1) for row in bit_rows(length)]
            ahead = [row for row in bit_rows(2 * many - 1) if row < telling_row(many)]
            self.assertEqual([row for row in (*shorter, *ahead) if tells_by_search(row, many)], [])
            self.assertTrue(tells_by_search(telling_row(many), many))

    def test_kinds(self):
        for many in range(1, 7):
            row = telling_row(many=many)
            self.assertIs(row.__class__, tuple)
            self.assertTrue(all(bit.__class__ is int for bit in row))


class RuleTold(Case):

    def test_by_hand(self):
        self.assertEqual(rule_told((1,), (7,)), (7,))
        self.assertEqual(rule_told((0, 1, 0), (0, -20, 0)), (-20,))
        self.assertEqual(rule_told((0, 1, 1), (5, 3)), (-2, 5))
        self.assertEqual(rule_told((0, 0, 1, 1, 1), (1, 2, 2)), BEST)
        self.assertEqual(rule_told((1, 1, 0, 1), (3, 5, 5)), (-2, 5))

    def test_there_and_back(self):
        chance = random.Random(2)
        for many in range(1, 7):
            for _ in range(30):
                rule = tuple(chance.randint(-20, 20) for _ in range(many))
                for row in (telling_row(many), telling_row(many)[::-1], tuple(chance.randint(0, 1) for _ in range(60))):
                    if does_tell(row, many):
                        self.assertEqual(self.unchanged(rule_told, row, indexes(rule, row)), rule)

    def test_against_small_rules(self):
        for many, length in ((1, 3), (2, 3), (2, 4), (3, 5), (3, 6)):
            for row in bit_rows(length):
                if does_tell(row, many):
                    table = {indexes(rule, row): rule for rule in small_rules(many)}
                    for numbers in product((-2, -1, 0, 1, 2), repeat=length + 1 - many):
                        if numbers in table:
                            self.assertEqual(rule_told(row, numbers), table[numbers])

    def test_numbers_that_no_rule_has(self):
        found = []
        for row in (*bit_rows(3), *bit_rows(4)):
            for many in (1, 2):
                if does_tell(row, many):
                    table = {indexes(rule, row): rule for rule in small_rules(many, tuple(range(-20, 21)))}
                    for numbers in product((-41, -40, -21, -20, 0, 1, 20, 21), repeat=len(row) + 1 - many):
                        found.append(numbers in table)
                        if numbers in table:
                            self.assertEqual(rule_told(row, numbers), table[numbers])
                        else:
                            self.refused(Nothing, "value", numbers, rule_told, row, numbers)
        self.assertEqual({*found}, {True, False})

    def test_nothing(self):
        for row, numbers in (
            # No ones, and yet an INDEX; as many ones, and another INDEX; a weight beyond 20 or -20.
            ((0, 1), (1, 5)), ((0, 1), (-1, 5)), ((1, 1), (5, 6)), ((1, 0, 1), (5, 0, 4)), ((1,), (21,)),
            ((1,), (-21,)), ((1,), (10 ** 59,)), ((0, 1, 1), (5, 26)), ((0, 1, 1), (5, -16)), ((0, 1, 1), (-21, 0)),
            ((1, 1, 0), (1, 22)), ((0, 0, 1, 1, 1), (1, 2, 23)), ((0, 0, 1, 1, 1), (-10 ** 59, 0, 10 ** 59)), ((0, 1, 1, 0), (3, 5, 4)),
        ):
            with self.assertRaises(Nothing) as caught:
                rule_told(row, numbers)
            self.assertIs(caught.exception.value, numbers)
        self.assertEqual(rule_told((0, 1, 1), (5, 25)), (20, 5))
        self.assertEqual(rule_told((0, 1, 1), (5, -15)), (-20, 5))

    def test_no_numbers(self):
        for thing in (*NO_TUPLES, ()):
            self.refused(BadNumber, "value", thing, rule_told, (1, 1, 1), thing)
            self.refused(BadNumber, "value", thing, rule_told, (), thing)
        for thing in NO_INTEGERS:
            for numbers in ((thing, 0), (0, thing), (thing, thing)):
                with self.assertRaises(BadNumber) as caught:
                    rule_told((0, 1, 1), numbers)
                self.assertIs(caught.exception.value, numbers)

    def test_n_below_1_or_above_6(self):
        row = (0, 1, 0, 1, 1, 1, 0, 1)
        for many in range(30):
            numbers = (0,) * many
            if many == 0 or not 1 <= len(row) + 1 - many <= 6 or not does_tell(row, len(row) + 1 - many):
                self.refused(BadNumber, "value", numbers, rule_told, row, numbers)
        row = (0,) * 6 + (1,) * 7
        for many in range(8, 14):
            self.assertEqual(rule_told(row, (0,) * many), (0,) * (14 - many))
        for many in (0, 1, 6, 7, 14, 15, 200):
            self.refused(BadNumber, "value", (0,) * many, rule_told, row, (0,) * many)
        self.refused(BadNumber, "value", (0,), rule_told, (), (0,))

    def test_a_row_that_does_not_tell(self):
        for row in (*bit_rows(3), *bit_rows(5)):
            for many in range(1, len(row) + 1):
                if not does_tell(row, many):
                    numbers = (0,) * (len(row) + 1 - many)
                    self.refused(BadNumber, "value", numbers, rule_told, row, numbers)

    def test_200_results(self):
        row = ((0,) * 6 + (1,) * 6) * 16 + (0, 1) * 4
        self.assertEqual(len(row), 200)
        for rule in RULES:
            self.assertEqual(rule_told(row, indexes(rule, row)), rule)

    def test_by_name(self):
        self.assertEqual(rule_told(numbers=(5, 3), row=(0, 1, 1)), (-2, 5))

    def test_what_is_refused_first(self):
        self.refused(BadRow, "number", 1, rule_told, (0, 2), ())
        self.refused(BadRow, "number", None, rule_told, numbers=None, row=None)
        self.refused(BadNumber, "value", (True,), rule_told, (0, 1), (True,))


class Fitting(Case):

    def test_by_hand(self):
        menu = (BEST, (0, 0, 1), (1, 1, 0), (0, 1), (1,), (0, 1, 1), (1, 1))
        self.assertEqual(fitting(menu, ()), (0, 1, 2, 3, 4, 5, 6))
        self.assertEqual(fitting(menu, (PAIR,)), (0, 5, 6))
        self.assertEqual(fitting(menu, (((5, 9, 7), 9),)), (1, 3))
        self.assertEqual(fitting(menu, (((5, 9, 7), 7),)), (4,))
        self.assertEqual(fitting(menu, (((5, 9, 7), 8),)), ())
        self.assertEqual(fitting(menu, (PAIR, ((9, 5, 7), 16))), (0, 5))
        self.assertEqual(fitting(menu, (PAIR, PAIR)), (0, 5, 6))
        self.assertEqual(fitting(menu, (PAIR, ((5, 9, 7), 15))), ())

    def test_a_row_that_is_too_short(self):
        menu = ((0,), (0, 0), (0, 0, 0), (0,) * 6)
        for many in range(8):
            wanted = tuple(number for number, rule in enumerate(menu) if len(rule) <= many)
            self.assertEqual(fitting(menu, (((5,) * many, 0),)), wanted)
            self.assertEqual(fitting(menu, (((5,) * 6, 0), ((5,) * many, 0))), wanted)

    def test_against_the_words(self):
        chance = random.Random(3)
        found = []
        for menu in menus_by_chance(200, 4):
            rule = chance.choice(menu)
            seen = []
            for row in rows(chance.randint(0, 4), 12, 3, seed=chance.random()):
                if len(row) >= len(rule):
                    seen.append((row, index(rule, row) + chance.choice((0,) * 9 + (1,))))
            wanted = [
                number for number, one in enumerate(menu)
                if all(len(row) >= len(one) and index(one, row) == told for row, told in seen)
            ]
            found.append(len(wanted))
            self.assertEqual(self.unchanged(fitting, menu, tuple(seen)), tuple(wanted))
        self.assertTrue({0, 1, 2} < {*found})

    def test_bounds(self):
        row = tuple(range(200))
        menu = ((0, 0, 0, 0, 0, 1),) * 10 + ((0, 0, 0, 0, 1, 0),) * 10
        self.assertEqual(fitting(menu, ((row, 199),) * 50), tuple(range(10)))
        self.assertEqual(fitting(menu, ((row, 10 ** 59),) * 50), ())
        self.assertEqual(fitting((SIX,), ((row, index(SIX, row)),)), (0,))

    def test_by_name(self):
        self.assertEqual(fitting(seen=(PAIR,), menu=(BEST,)), (0,))

    def test_no_menu(self):
        for thing in NO_MENUS:
            for call, more in ((fitting, (None,)), (fitting, ((),)), (best_ask, (None, None)), (best_ask, ((), 6))):
                with self.assertRaises(BadNumber) as caught:
                    call(thing, *more)
                self.assertIs(caught.exception.value, thing)
        fitting((BEST,) * 20, ())

    def test_no_seen(self):
        for thing in NO_SEEN:
            for call, more in ((fitting, ()), (best_ask, (None,)), (best_ask, (6,))):
                with self.assertRaises(BadNumber) as caught:
                    call((BEST,), thing, *more)
                self.assertIs(caught.exception.value, thing)
        fitting((BEST,), (PAIR,) * 50)


class BestAsk(Case):

    def test_by_hand(self):
        # 1 parts the two; the first row with a 1 is last.
        self.assertEqual(best_ask(((1,), (2,)), (), 6), (0, 0, 0, 0, 0, 1))
        self.assertEqual(best_ask(((1,), (2,)), (), 10), (0,) * 9 + (1,))
        # Both are 1 for one 1, and only for two of them unlike.
        self.assertEqual(best_ask(((0, 1), (1, 1)), (), 6), (0, 0, 0, 0, 1, 1))
        # Three of them: 1, 1 and 2 for one 1, and 1, 2 and 2 for two, 1, 2 and 3 for three.
        self.assertEqual(best_ask(((0, 0, 1), (0, 1, 1), (0, 0, 2)), (), 7), (0, 0, 0, 0, 0, 0, 1))
        self.assertEqual(best_ask(((0, 0, 1), (0, 1, 1), (1, 1, 1)), (), 7), (0, 0, 0, 0, 1, 1, 1))

    def test_none(self):
        for size in range(6, 11):
            self.assertIsNone(best_ask((BEST,), (), size))
            # Equal RULES are never parted.
            self.assertIsNone(best_ask((BEST, BEST), (), size))
            self.assertIsNone(best_ask((SIX,) * 20, (), size))
            # One at most fits.
            self.assertIsNone(best_ask((BEST, (0, 1, 0)), (PAIR,), size))
            self.assertIsNone(best_ask((BEST, (0, 1, 0)), (PAIR, ((1, 1, 1), 7)), size))
            self.assertIsNone(best_ask(((1,), (2,)), (((), 0),), size))
            # 0 for all.
            self.assertIsNone(best_ask(((0,), (0, 0)), (), size))
            self.assertIsNotNone(best_ask(((0,), (0, 1), (0,)), (), size))

    def test_against_all_rows(self):
        chance = random.Random(5)
        found = []
        for number, menu in enumerate(menus_by_chance(60, 6)):
            rule = chance.choice(menu)
            seen = ()
            if number % 3 == 0:
                row = tuple(chance.randint(0, 3) for _ in range(len(rule) + 1))
                seen = ((row, index(rule, row)),)
            for size in (6, 7, 8) if number % 10 else (6, 10):
                found.append(self.unchanged(best_ask, menu, seen, size))
                self.assertEqual(found[-1], ask_by_search(menu, seen, size), (menu, seen, size))
        self.assertGreater(found.count(None), 10)
        self.assertGreater(len(found) - found.count(None), 10)

    def test_each_size_has_zeros_ahead(self):
        for menu in menus_by_chance(30, 7):
            told = best_ask(menu, (), 6)
            for size in range(7, 11):
                wanted = None if told is None else (0,) * (size - 6) + told
                self.assertEqual(best_ask(menu, (), size), wanted)

    def test_twenty_of_six_weights(self):
        chance = random.Random(8)
        menu = tuple(tuple(chance.randint(-2, 2) for _ in range(6)) for _ in range(20))
        self.assertEqual(best_ask(menu, (), 6), ask_by_search(menu, (), 6))
        row = tuple(chance.randint(0, 10 ** 6) for _ in range(200))
        seen = ((row, index(menu[3], row)),) * 50
        self.assertEqual(best_ask(menu[:10] + menu[:10], seen, 10), ask_by_search(menu[:10] * 2, seen, 10))

    def test_kinds(self):
        row = best_ask(((1,), (2,)), (), 6)
        self.assertIs(row.__class__, tuple)
        self.assertTrue(all(bit.__class__ is int for bit in row))

    def test_by_name(self):
        self.assertEqual(best_ask(size=6, seen=(), menu=((1,), (2,))), (0, 0, 0, 0, 0, 1))

    def test_no_size(self):
        for thing in NO_SIZES:
            for menu in ((BEST,), (BEST, (1,))):
                self.refused(BadNumber, "value", thing, best_ask, menu, (), thing)

    def test_what_is_refused_first(self):
        self.refused(BadNumber, "value", (), best_ask, (), None, None)
        self.refused(BadNumber, "value", None, best_ask, (BEST,), None, "size")
        self.refused(BadNumber, "value", "size", best_ask, (BEST,), (), "size")
