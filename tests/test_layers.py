"""The LAYERS of a ROW, and the facts on them."""

from itertools import product

from bestoflast.bills import pays, width, worth
from bestoflast.errors import BadNumber, BadRow
from bestoflast.rules import index, indexes, layer
from tests.helper import NO_INTEGERS, NO_TUPLES, Case, rows
from tests.test_bills import BILLS
from tests.test_rules import RULES


def layers(row):
    """The LAYERS of a ROW for all levels from 1 to its greatest RESULT."""
    return [layer(row, level) for level in range(1, max(row, default=0) + 1)]


class Layer(Case):

    def test_by_hand(self):
        row = (5, 9, 0, 7, 2, 5)
        self.assertEqual(layer(row, 1), (1, 1, 0, 1, 1, 1))
        self.assertEqual(layer(row, 2), (1, 1, 0, 1, 1, 1))
        self.assertEqual(layer(row, 3), (1, 1, 0, 1, 0, 1))
        self.assertEqual(layer(row, 5), (1, 1, 0, 1, 0, 1))
        self.assertEqual(layer(row, 6), (0, 1, 0, 1, 0, 0))
        self.assertEqual(layer(row, 9), (0, 1, 0, 0, 0, 0))
        self.assertEqual(layer(row, 10), (0,) * 6)

    def test_edges(self):
        self.assertEqual(layer((), 1), ())
        self.assertEqual(layer((0,), 1), (0,))
        self.assertEqual(layer((10 ** 6,) * 200, 10 ** 6), (1,) * 200)
        self.assertEqual(layer((10 ** 6,) * 200, 10 ** 6 + 1), (0,) * 200)
        self.assertEqual(layer((10 ** 6, 3), 10 ** 59), (0, 0))

    def test_bits_are_integers(self):
        for bit in self.unchanged(layer, (0, 1, 2), 1):
            self.assertIs(bit.__class__, int)
        self.assertIsInstance(layer((0, 1, 2), 1), tuple)

    def test_by_name(self):
        self.assertEqual(layer(level=2, row=(1, 2, 3)), (0, 1, 1))

    def test_no_level(self):
        for thing in (*NO_INTEGERS, 0, -1, -2, -10 ** 59):
            self.refused(BadNumber, "value", thing, layer, (1, 2), thing)
            self.refused(BadNumber, "value", thing, layer, (), thing)

    def test_no_row(self):
        for thing in NO_TUPLES:
            self.refused(BadRow, "number", None, layer, thing, 1)
        self.refused(BadRow, "number", None, layer, (1,) * 201, 1)
        self.refused(BadRow, "number", 1, layer, (1, -1), 1)
        self.refused(BadRow, "number", 0, layer, (True, 1), 1)

    def test_the_first_argument_is_told_first(self):
        for level in (0, None, True, "1"):
            self.refused(BadRow, "number", None, layer, [1], level)
            self.refused(BadRow, "number", 2, layer, (1, 2, 10 ** 6 + 1), level)
            self.refused(BadRow, "number", 2, layer, level=level, row=(1, 2, 10 ** 6 + 1))


class Facts(Case):

    def test_the_index_is_the_sum_of_those_of_the_layers(self):
        for row in rows(60, 12, 9, seed=3):
            for rule in RULES:
                if len(row) >= len(rule):
                    self.assertEqual(index(rule, row), sum(index(rule, bits) for bits in layers(row)))
                    columns = zip(*[indexes(rule, bits) for bits in layers(row)])
                    if max(row):
                        self.assertEqual(indexes(rule, row), tuple(map(sum, columns)))

    def test_the_worth_is_the_sum_of_those_of_the_layers(self):
        for row in rows(60, 12, 9, seed=4):
            for bill in BILLS:
                if len(row) >= width(bill):
                    self.assertEqual(worth(bill, row), sum(worth(bill, bits) for bits in layers(row)))
                    columns = zip(*[pays(bill, bits) for bits in layers(row)])
                    if max(row) and len(row) > width(bill):
                        self.assertEqual(pays(bill, row), tuple(map(sum, columns)))

    def test_layers_of_a_row_that_is_nowhere_less(self):
        for row in product(range(3), repeat=3):
            for other in product(range(3), repeat=3):
                if all(one >= two for one, two in zip(row, other)):
                    for level in range(1, 5):
                        pairs = zip(layer(row, level), layer(other, level))
                        self.assertTrue(all(one >= two for one, two in pairs))

    def test_a_bit_row_is_its_own_layer(self):
        for row in product((0, 1), repeat=5):
            self.assertEqual(layer(row, 1), row)
            self.assertEqual(layer(row, 2), (0,) * 5)
