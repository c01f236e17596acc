"""Every call by the names of its arguments, twice, and with what is none at each place."""

from itertools import combinations, permutations

from bestoflast import (
    beside, bills, bounds, desk, errors, files, means, owns, reach, rules, texts, told, turns, worse,
)
from bestoflast.errors import BadBill, BadKind, BadNumber, BadPaper, BadRow, BadRule, BadText
from tests.helper import Case, copied

BEST = (0, 1, 1)
BILL = (-1, ((BEST, -1, 2), ((1, -1), 1, 0)))
OTHER = (2, ())
ROW = (5, 9, 7, 2, 8, 0)
WORSE = (5, 9, 7, 4, 8, 1)
TEXT = "own 2\nterm -1 0 0 1 1"
PLACE = (0, 1, 1)
MENU = (BEST, (0, 1, 0), (1,))
SEEN = (((5, 9, 7), 7),)

# What is none of an argument: the values, the class and the name of the error, and what it keeps.
NO_RULE = ((21, BadRule, None), ((), BadRule, None), ((1, 21), BadRule, 1), ([1], BadRule, None))
NO_ROW = ((None, BadRow, None), ((1, -1), BadRow, 1), ((True,), BadRow, 0), ([1, 2, 3], BadRow, None))
NO_BILL = ((None, BadBill, "form"), ((51, ()), BadBill, "own"), ((0, 0), BadBill, "terms"), ((0, (1,)), BadBill, 0))
NO_BITS = ((None, BadRow, None), ((0, 5, -1), BadRow, 2), ((0, 5), BadRow, 1))
NO_KIND = (("all", BadKind, "all"), (None, BadKind, None), (1, BadKind, 1), (("any",), BadKind, ("any",)))
NO_PAPER = ((None, BadPaper, "form"), ((), BadPaper, "form"), (("bound",), BadPaper, "form"))
NO_STRING = ((None, BadText, 0), (b"own 1", BadText, 0), (("own 1",), BadText, 0))


def number(*values):
    """What is none of an argument that is kept by BadNumber: of any number, and these values."""
    return tuple((value, BadNumber, value) for value in (*values, None, True, False, "1", (1, "1"), [1]))


NAMES = {
    BadRule: "number", BadRow: "number", BadBill: "part", BadNumber: "value", BadKind: "value", BadPaper: "part",
    BadText: "line",
}
# Each function: its arguments in order, with one that will do and what is none of it.
RULE = ("rule", BEST, NO_RULE)
A_BILL = ("bill", BILL, NO_BILL)
A_ROW = ("row", ROW, NO_ROW)
CALLS = (
    (rules.need_rule, ("thing", BEST, NO_RULE)),
    (rules.need_row, ("thing", ROW, NO_ROW)),
    (rules.index, RULE, ("row", ROW, (*NO_ROW, ((1, 2), BadRow, None)))),
    (rules.indexes, RULE, A_ROW),
    (rules.layer, A_ROW, ("level", 5, number(0, -1))),
    (bills.need_bill, ("thing", BILL, NO_BILL)),
    (bills.width, A_BILL),
    (bills.pays, A_BILL, ("row", ROW, (*NO_ROW, ((1, 2), BadRow, None)))),
    (bills.worth, A_BILL, ("row", ROW, (*NO_ROW, ((1, 2), BadRow, None)))),
    (bills.added, A_BILL, ("other", OTHER, NO_BILL)),
    (bounds.is_bounded, A_BILL),
    (bounds.greatest, A_BILL),
    (bounds.best_row, A_BILL),
    (bounds.bound_paper, A_BILL),
    (bounds.check_bound, A_BILL, ("paper", bounds.bound_paper(BILL), NO_PAPER)),
    (worse.gain, A_BILL, A_ROW, ("other", WORSE, (*NO_ROW, (ROW[:-1], BadRow, None), ((0,) * 6, BadRow, 0)))),
    (worse.greatest_gain, A_BILL, ("kind", "once", NO_KIND)),
    (worse.gain_rows, A_BILL, ("kind", "any", NO_KIND)),
    (worse.does_pay, A_BILL, ("kind", "once", NO_KIND)),
    (worse.worse_paper, A_BILL),
    (worse.check_worse, A_BILL, ("paper", worse.worse_paper(BILL), NO_PAPER)),
    (files.File, A_BILL),
    (texts.bill_text, A_BILL),
    (texts.read_bill, ("string", TEXT, NO_STRING)),
    (texts.row_text, A_ROW),
    (texts.read_row, ("string", "5 9 7", NO_STRING)),
    (
        means.mean, A_BILL, ("place", PLACE, number(0, (0, 1), (0, 1, True), (0, 1, 1, 0))),
        ("bits", (0, 1, 1), number(1, (1,), (0, 1, True), [0, 1, 1])),
    ),
    (means.top, A_BILL),
    (means.low, A_BILL),
    (means.top_ring, A_BILL),
    (means.top_paper, A_BILL),
    (means.check_top, A_BILL, ("paper", means.top_paper(BILL), NO_PAPER)),
    (means.top_gain, A_BILL),
    (owns.edge, A_BILL),
    (owns.edge_paper, A_BILL),
    (owns.check_edge, A_BILL, ("paper", owns.edge_paper(BILL), NO_PAPER)),
    (owns.fair, A_BILL),
    (owns.fair_rows, A_BILL),
    *[
        (call, RULE, ("other", (1, 2), NO_RULE), ("rounds", 3, number(-1, 7)))
        for call in (beside.never_above, beside.above_row, beside.suits)
    ],
    *[
        (
            call, RULE, ("row", ROW, (*NO_ROW, ((1, 2), BadRow, None))), ("most", 7, number(-1, 10 ** 6 + 1)),
            ("rounds", 3, number(-1, 201)),
        )
        for call in (reach.reach, reach.greatest_way)
    ],
    (reach.soonest, RULE, A_ROW, ("most", 7, number(-1, 10 ** 6 + 1)), ("goal", 14, number())),
    *[(call, RULE, ("rounds", 2, number(-1, 201))) for call in (reach.rise, reach.fall, reach.rise_row)],
    *[(call, A_BILL, A_ROW, ("number", 3, number(2, 5, 6, -1))) for call in (turns.turned, turns.turn)],
    (turns.greatest_turn, A_BILL),
    (turns.turn_row, A_BILL),
    (told.does_tell, ("row", (0, 1, 1), NO_BITS), ("many", 2, number(0, 7))),
    (told.telling_row, ("many", 4, number(0, 7))),
    (told.rule_told, ("row", (0, 1, 1), NO_BITS), ("numbers", (5, 3), number(5, (), (5, 3, 1, 0), (5, True), [5, 3]))),
    (told.fitting, ("menu", MENU, number(5, BEST, (BEST, 5))), ("seen", SEEN, number(5, SEEN[0], (5,)))),
    (
        told.best_ask, ("menu", MENU, number(5, BEST, (BEST, 5))), ("seen", SEEN, number(5, SEEN[0], (5,))),
        ("size", 7, number(5, 11)),
    ),
)


def parts(call):
    """The function, the names, what will do, and what is none of each."""
    function, *arguments = call
    names, good, bad = zip(*arguments)
    return function, list(names), list(good), list(bad)


def kept(thing):
    """What can be compared of a thing that a call returns."""
    return (thing.bill, thing.row) if isinstance(thing, files.File) else thing


class ByName(Case):

    def test_each_function_stands_here(self):
        modules = (rules, bills, bounds, worse, texts, means, owns, beside, reach, turns, told)
        here = {(call[0].__module__, call[0].__name__) for call in CALLS}
        self.assertEqual(len(here), len(CALLS))
        self.assertEqual({name for name, _ in here}, {module.__name__ for module in (*modules, files)})

    def test_in_any_order(self):
        for function, names, good, _ in map(parts, CALLS):
            wanted = kept(function(*good))
            for order in permutations(list(zip(names, good))):
                self.assertEqual(kept(function(**dict(order))), wanted, function)
            for many in range(len(names)):
                self.assertEqual(kept(function(*good[:many], **dict(list(zip(names, good))[many:]))), wanted, function)

    def test_twice_and_nothing_is_changed(self):
        for function, _, good, _ in map(parts, CALLS):
            before = copied(good)
            first, second = kept(function(*good)), kept(function(*good))
            self.assertEqual(first, second, function)
            self.assertEqual(good, before, function)
            self.assertEqual(function(*good).__class__, function(*good).__class__)

    def test_a_refused_call_changes_nothing(self):
        for function, _, good, bad in map(parts, CALLS):
            for at, wrong in enumerate(bad):
                for thing, _, _ in wrong:
                    passed = [*good[:at], thing, *good[at + 1:]]
                    before = copied(passed)
                    with self.assertRaises(errors.ResultError):
                        function(*passed)
                    self.assertEqual(passed, before, function)


class OfAFile(Case):

    def test_methods_by_name(self):
        file = files.File(bill=BILL)
        for result in ROW:
            self.assertEqual(file.add(result=result), files_pay(file))
        self.assertEqual(file.index(number=0), file.index(0))
        file.back(many=2)
        self.assertEqual(file.row, ROW[:4])
        self.assertEqual(files.under(deed=len, manager=file.trial()), 4)
        self.refused(BadNumber, "value", -1, file.add, result=-1)
        self.refused(BadNumber, "value", 2, file.index, number=2)
        self.refused(BadNumber, "value", 0, file.back, many=0)
        with self.assertRaises(TypeError):
            file.back(1)

    def test_desks_by_name(self):
        one = desk.Desk(text=TEXT)
        self.assertEqual([one.say(line=line) for line in ("add 5", "row", "x")], ["none", "5", "no"])
        self.refused(BadText, "line", 0, desk.Desk, text=None)
        self.refused(BadText, "line", 0, one.say, line=None)

    def test_errors_by_name(self):
        for error, name in NAMES.items():
            for thing in (None, 5, "form", [1]):
                self.assertIs(getattr(error(**{name: thing}), name), thing)
        self.assertEqual(errors.Nothing(value=5).value, 5)


def files_pay(file):
    """What the last result of a file pays, or None."""
    paid = bills.pays(file.bill, file.row) if len(file) >= bills.width(file.bill) else ()
    return paid[-1] if paid else None


class Refusals(Case):

    def test_each_one_at_each_place(self):
        for function, names, good, bad in map(parts, CALLS):
            for at, wrong in enumerate(bad):
                for thing, error, keeps in wrong:
                    passed = [*good[:at], thing, *good[at + 1:]]
                    self.refused(error, NAMES[error], keeps, function, *passed)
                    named = dict(zip(names, passed))
                    self.refused(error, NAMES[error], keeps, lambda: function(**named))

    def test_the_first_of_two(self):
        for function, names, good, bad in map(parts, CALLS):
            for one, other in combinations(range(len(names)), 2):
                for thing, error, keeps in bad[one]:
                    for behind, _, _ in bad[other]:
                        passed = list(good)
                        passed[one], passed[other] = thing, behind
                        self.refused(error, NAMES[error], keeps, function, *passed)
                        named = dict(list(zip(names, passed))[::-1])
                        self.refused(error, NAMES[error], keeps, lambda: function(**named))

    def test_all_at_once(self):
        for function, names, _, bad in map(parts, CALLS):
            for thing, error, keeps in bad[0]:
                for behind in ([], {}, object(), None, -1):
                    self.refused(error, NAMES[error], keeps, function, thing, *[behind] * (len(names) - 1))
