"""What the tests share: things that are refused, rows by chance, and how a call is refused."""

import copy
import random
import unittest


class Thing:
    """Something that is neither a number nor a tuple, and can not be shown or compared."""

    def __repr__(self):
        raise RuntimeError("not shown")

    def __eq__(self, other):
        raise RuntimeError("not compared")

    __hash__ = None


NO_INTEGERS = (
    None, True, False, "", "1", "form", b"1", [], [1], (), (1,), {}, {1: 1}, set(), frozenset(),
    range(3), object(), Thing(), len, int, ValueError(1), 1j, NotImplemented, ...,
)

NO_TUPLES = (
    None, True, False, 0, 1, -1, 10 ** 60, "", "ab", b"ab", [], [1, 2], {}, {0: 1, 1: 2}, set(),
    frozenset((1, 2)), range(2), object(), Thing(), len, tuple, ValueError(1), iter((1, 2)), ...,
)


def copied(thing):
    """A copy, to be compared with what the thing is later on."""
    return copy.deepcopy(thing)


def rows(many, length, most, seed=1):
    """Rows of at most so many results, by chance, but the same ones each time."""
    chance = random.Random(seed)
    return [
        tuple(chance.randint(0, most) for _ in range(chance.randint(0, length)))
        for _ in range(many)
    ]


class Case(unittest.TestCase):
    """A test that asks how a call is refused."""

    def refused(self, error, name, thing, call, *told, **named):
        """The call raises this very error, which keeps this very thing under the name."""
        with self.assertRaises(error) as caught:
            call(*told, **named)
        self.assertIs(caught.exception.__class__, error)
        kept = getattr(caught.exception, name)
        self.assertIs(kept.__class__, thing.__class__)
        if kept is not thing:
            self.assertEqual(kept, thing)

    def unchanged(self, call, *told):
        """What the call returns, twice the same; what it is passed stays as it was."""
        before = copied(told)
        first = call(*told)
        self.assertEqual(told, before)
        self.assertEqual(call(*told), first)
        self.assertEqual(told, before)
        return first
