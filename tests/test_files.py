"""The live file: File, and under beside it."""

import inspect
import random

from bestoflast import files
from bestoflast.bills import pays, width, worth
from bestoflast.errors import BadBill, BadNumber, Nothing
from bestoflast.files import File, under
from bestoflast.rules import index
from tests.helper import NO_INTEGERS, NO_TUPLES, Case, Thing
from tests.search import BEST, SIX, SIX_UP, SMALL

BILL = (2, ((BEST, -1, 3), ((1,), 5, -7)))
BILLS = (*SMALL, *SIX, BILL)
RESULTS = (5, 9, 7, 2, 8)


class Broken(Exception):
    """What ends a block in these tests."""


def filled(bill=BILL, results=RESULTS):
    """A file with results."""
    file = File(bill)
    for result in results:
        file.add(result)
    return file


class Files(Case):

    def stands(self, file, bill, row):
        """The file answers as the bill and the row tell, by the functions of rules and bills."""
        self.assertEqual(file.bill, bill)
        self.assertEqual(file.row, row)
        self.assertIs(file.row.__class__, tuple)
        self.assertEqual(len(file), len(row))
        self.assertEqual(file(), worth(bill, row) if len(row) >= width(bill) else None)
        for number, (rule, _, _) in enumerate(bill[1]):
            wanted = index(rule, row) if len(row) >= len(rule) else None
            self.assertEqual(file.index(number), wanted)
        for value in (*row, 0, 1, 10 ** 6, -1, 10 ** 6 + 1):
            self.assertIs(value in file, value in row)

    def unmoved(self, file, error, thing, call, *told, **named):
        """The call is refused, and leaves the file as it was."""
        bill, row = file.bill, file.row
        self.refused(error, "value", thing, call, *told, **named)
        self.stands(file, bill, row)


class Made(Files):

    def test_an_empty_one(self):
        for bill in BILLS:
            self.stands(File(bill), bill, ())
            self.stands(File(bill=bill), bill, ())
            self.assertIs(File(bill).bill, bill)
            self.assertEqual(len(File(bill)), 0)
            self.assertIsNone(File(bill)())

    def test_no_bill(self):
        for thing in (*NO_TUPLES, (), (1,), (1, (), ()), [1, ()]):
            self.refused(BadBill, "part", "form", File, thing)
        for own in (51, -51, True, None):
            self.refused(BadBill, "part", "own", File, (own, ()))
        for terms in (None, [], ((BEST, 0, 0),) * 3):
            self.refused(BadBill, "part", "terms", File, (1, terms))
        self.refused(BadBill, "part", 0, File, (1, (None,)))
        self.refused(BadBill, "part", 1, File, bill=(1, ((BEST, 0, 0), (BEST, 0, -51))))

    def test_bill_and_row_are_properties(self):
        for name in ("bill", "row"):
            self.assertIsInstance(vars(File)[name], property)
            with self.assertRaises(AttributeError):
                setattr(filled(), name, ())

    def test_what_the_class_itself_defines(self):
        for name in (
            "__init__", "__call__", "__len__", "__eq__", "__contains__", "add", "index", "back",
            "copy", "trial", "bill", "row",
        ):
            self.assertIn(name, vars(File))
        self.assertEqual(File.__module__, "bestoflast.files")
        self.assertEqual(under.__module__, "bestoflast.files")
        self.assertIs(vars(files)["under"], under)

    def test_names_of_arguments(self):
        wanted = {
            "__init__": ["bill"], "add": ["result"], "__call__": [], "index": ["number"],
            "back": ["many"], "copy": [], "trial": [],
        }
        for name, told in wanted.items():
            self.assertEqual(list(inspect.signature(vars(File)[name]).parameters)[1:], told, name)
        self.assertEqual(list(inspect.signature(under).parameters), ["manager", "deed"])
        many = inspect.signature(File.back).parameters["many"]
        self.assertEqual((many.kind, many.default), (inspect.Parameter.KEYWORD_ONLY, 1))


class Add(Files):

    def test_by_hand(self):
        file = File((2, ((BEST, -1, 0),)))
        self.assertEqual([file.add(result) for result in (5, 9, 7, 2, 8)], [None, None, None, -12, 0])
        self.assertEqual(file(), -12)
        self.assertEqual(file.index(0), 15)
        self.assertEqual(file.row, (5, 9, 7, 2, 8))

    def test_what_each_one_pays(self):
        chance = random.Random(7)
        for bill in BILLS:
            file, row = File(bill), ()
            for _ in range(15):
                result = chance.choice((0, 1, chance.randint(0, 9), 10 ** 6))
                told = file.add(result)
                row += (result,)
                self.assertEqual(told, pays(bill, row)[-1] if len(row) > width(bill) else None)
                self.stands(file, bill, row)

    def test_none_of_just_width(self):
        for bill in BILLS:
            file = File(bill)
            for _ in range(width(bill)):
                self.assertIsNone(file())
                self.assertIsNone(file.add(3))
            self.assertEqual(file(), 0)
            self.assertEqual(file.add(3), file())

    def test_a_file_of_200(self):
        for bill in (BILL, *SIX):
            file, row = File(bill), ()
            for number in range(200):
                row += (number * 7919 % 1000003 % (10 ** 6 + 1),)
                told = file.add(row[-1])
            self.assertEqual(told, pays(bill, row)[-1])
            self.stands(file, bill, row)
            for result in (0, 5, 10 ** 6):
                self.unmoved(file, Nothing, 200, file.add, result)
            for thing in (None, -1, True):
                self.unmoved(file, BadNumber, thing, file.add, thing)
            file.back()
            self.assertEqual(file.add(3), pays(bill, row[:-1] + (3,))[-1])
            self.unmoved(file, Nothing, 200, file.add, 3)

    def test_no_result(self):
        for file in (File(BILL), filled(), filled(SIX_UP)):
            for thing in (*NO_INTEGERS, -1, 10 ** 6 + 1, -2, 10 ** 59, -10 ** 59):
                self.unmoved(file, BadNumber, thing, file.add, thing)

    def test_bounds(self):
        file = File(BILL)
        for result in (0, 10 ** 6, 0, 10 ** 6):
            file.add(result)
        self.stands(file, BILL, (0, 10 ** 6, 0, 10 ** 6))

    def test_by_name(self):
        file = filled()
        self.assertEqual(file.add(result=4), pays(BILL, RESULTS + (4,))[-1])
        self.unmoved(file, BadNumber, -1, file.add, result=-1)


class Index(Files):

    def test_each_term(self):
        file = filled()
        self.assertEqual(file.index(0), 15)
        self.assertEqual(file.index(1), 8)
        self.assertEqual(file.index(number=1), 8)

    def test_none_of_fewer_than_n(self):
        file = File((0, ((BEST, 1, 1), ((1,), 1, 1))))
        self.assertEqual((file.index(0), file.index(1)), (None, None))
        file.add(4)
        self.assertEqual((file.index(0), file.index(1)), (None, 4))
        file.add(6)
        self.assertEqual((file.index(0), file.index(1)), (None, 6))
        file.add(5)
        self.assertEqual((file.index(0), file.index(1)), (11, 5))

    def test_no_number_of_a_term(self):
        for bill in BILLS:
            for file in (File(bill), filled(bill)):
                many = len(bill[1])
                for thing in (*NO_INTEGERS, -1, -2, many, many + 1, 10 ** 59, -10 ** 59):
                    self.unmoved(file, BadNumber, thing, file.index, thing)
                self.unmoved(file, BadNumber, many, file.index, number=many)


class Back(Files):

    def test_one_and_more(self):
        file = filled()
        self.assertIsNone(file.back())
        self.stands(file, BILL, (5, 9, 7, 2))
        self.assertIsNone(file.back(many=1))
        self.stands(file, BILL, (5, 9, 7))
        self.assertIsNone(file.back(many=2))
        self.stands(file, BILL, (5,))
        file.add(4)
        self.stands(file, BILL, (5, 4))
        file.back(many=2)
        self.stands(file, BILL, ())

    def test_all_of_many(self):
        for many in range(1, 6):
            file = filled()
            file.back(many=many)
            self.stands(file, BILL, RESULTS[:5 - many])

    def test_by_more_than_there_are(self):
        for results in ((), (1,), RESULTS):
            file = filled(results=results)
            for more in (1, 2, 100, 10 ** 59):
                self.unmoved(file, Nothing, len(results) + more, file.back, many=len(results) + more)
        file = File(BILL)
        self.unmoved(file, Nothing, 1, file.back)

    def test_no_number(self):
        for file in (File(BILL), filled()):
            for thing in (*NO_INTEGERS, 0, -1, -10 ** 59):
                self.unmoved(file, BadNumber, thing, file.back, many=thing)

    def test_by_name_alone(self):
        file = filled()
        with self.assertRaises(TypeError):
            file.back(1)
        self.stands(file, BILL, RESULTS)


class Copy(Files):

    def test_goes_on_by_itself(self):
        for bill in BILLS:
            file = filled(bill)
            copied = file.copy()
            self.assertIsInstance(copied, File)
            self.assertIsNot(copied, file)
            self.stands(copied, bill, RESULTS)
            copied.add(6)
            file.back(many=2)
            self.stands(copied, bill, RESULTS + (6,))
            self.stands(file, bill, RESULTS[:3])
            file.add(1)
            self.stands(copied, bill, RESULTS + (6,))

    def test_copies_of_copies(self):
        file = File(BILL)
        copies = []
        for number in range(10):
            file = file.copy()
            copies.append(file)
            file.add(number)
        for number, one in enumerate(copies):
            self.stands(one, BILL, tuple(range(number + 1)))

    def test_in_a_trial(self):
        file = filled()
        with file.trial() as one:
            one.add(6)
            copied = one.copy()
            copied.add(3)
        self.stands(file, BILL, RESULTS)
        self.stands(copied, BILL, RESULTS + (6, 3))
        with copied.trial():
            file.add(1)
            copied.add(2)
        self.stands(file, BILL, RESULTS + (1,))
        self.stands(copied, BILL, RESULTS + (6, 3))


class Trials(Files):

    def test_gives_the_very_file(self):
        file = filled()
        with file.trial() as one:
            self.assertIs(one, file)

    def test_adds_and_takes_back(self):
        for bill in BILLS:
            for results in ((), (4,), RESULTS):
                file = filled(bill, results)
                with file.trial():
                    file.add(6)
                    file.add(7)
                    self.stands(file, bill, results + (6, 7))
                self.stands(file, bill, results)
                if results:
                    with file.trial() as one:
                        one.back(many=len(results))
                        one.add(1)
                        self.stands(file, bill, (1,))
                    self.stands(file, bill, results)

    def test_one_in_another(self):
        file = filled()
        with file.trial() as one:
            one.add(1)
            with one.trial() as two:
                two.back(many=3)
                with two.trial() as three:
                    three.add(3)
                    three.add(3)
                self.stands(file, BILL, (5, 9, 7))
                two.add(4)
            self.stands(file, BILL, RESULTS + (1,))
            with file.trial(), file.trial():
                file.back(many=6)
            self.stands(file, BILL, RESULTS + (1,))
        self.stands(file, BILL, RESULTS)

    def test_a_block_that_ends_by_an_error(self):
        file = filled()
        error = Broken("here")
        for inner in (False, True):
            with self.assertRaises(Broken) as caught:
                with file.trial() as one:
                    one.add(1)
                    if inner:
                        with one.trial():
                            one.back(many=4)
                            raise error
                    raise error
            self.assertIs(caught.exception, error)
            self.stands(file, BILL, RESULTS)

    def test_an_error_of_the_inner_block_leaves_the_outer_one(self):
        file = filled()
        with file.trial():
            file.add(1)
            with self.assertRaises(Broken):
                with file.trial():
                    file.add(2)
                    raise Broken
            self.stands(file, BILL, RESULTS + (1,))
        self.stands(file, BILL, RESULTS)

    def test_errors_of_the_file_pass_too(self):
        file = filled()
        with self.assertRaises(BadNumber):
            with file.trial():
                file.add(1)
                file.add(-1)
        self.stands(file, BILL, RESULTS)
        with self.assertRaises(Nothing):
            with file.trial():
                file.back(many=3)
                file.back(many=3)
        self.stands(file, BILL, RESULTS)

    def test_other_ways_out_of_a_block(self):
        file = filled()

        def left():
            with file.trial() as one:
                return one.add(1), one.row

        self.assertEqual(left()[1], RESULTS + (1,))
        self.stands(file, BILL, RESULTS)
        for _ in range(2):
            with file.trial():
                file.add(2)
                break
        self.stands(file, BILL, RESULTS)
        for _ in range(2):
            with file.trial():
                file.add(2)
                continue
        self.stands(file, BILL, RESULTS)
        for ends in (KeyboardInterrupt, SystemExit, GeneratorExit, StopIteration):
            with self.assertRaises(ends):
                with file.trial():
                    file.add(3)
                    raise ends
            self.stands(file, BILL, RESULTS)

    def test_as_it_was_when_the_block_began(self):
        file = filled()
        trial = file.trial()
        file.add(1)
        with trial:
            file.add(2)
        self.stands(file, BILL, RESULTS + (1,))

    def test_a_trial_alone_does_nothing(self):
        file = filled()
        file.trial()
        file.add(1)
        self.stands(file, BILL, RESULTS + (1,))

    def test_of_a_full_file(self):
        file = filled(SIX_UP, (3,) * 200)
        with file.trial():
            self.unmoved(file, Nothing, 200, file.add, 1)
            file.back(many=200)
            self.assertEqual(len(file), 0)
        self.stands(file, SIX_UP, (3,) * 200)


class Alike(Files):

    def test_the_same_bill_and_row(self):
        for bill in BILLS:
            self.assertTrue(filled(bill) == filled(bill))
            self.assertFalse(filled(bill) != filled(bill))
            self.assertTrue(File(bill) == File((bill[0], tuple(list(bill[1])))))
            self.assertTrue(filled(bill) == filled(bill).copy())

    def test_another_row(self):
        for results in ((), RESULTS[:-1], RESULTS + (0,), RESULTS[::-1], (5, 9, 7, 2, 9)):
            self.assertFalse(filled() == filled(results=results))
            self.assertTrue(filled() != filled(results=results))

    def test_another_bill(self):
        for one in BILLS:
            for two in BILLS:
                self.assertIs(filled(one) == filled(two), one == two)
                self.assertIs(filled(one) != filled(two), one != two)
        self.assertFalse(File((0, ())) == File((0, (((0,), 0, 0),))))

    def test_the_very_file(self):
        file = filled()
        self.assertTrue(file == file)

    def test_it_counts_how_it_stands_and_not_how_it_came_there(self):
        file = filled()
        file.add(1)
        file.back()
        with file.trial():
            file.back(many=5)
        self.assertTrue(file == filled())

    def test_no_file(self):
        for file in (File(BILL), filled()):
            for thing in (*NO_INTEGERS, *NO_TUPLES, 0, 5, BILL, RESULTS, (BILL, RESULTS), file.trial()):
                self.assertIs(file == thing, False)
                self.assertIs(file != thing, True)

    def test_a_thing_that_can_not_be_compared(self):
        self.assertIs(filled() == Thing(), False)


class Within(Files):

    def test_results(self):
        file = filled()
        for value in range(12):
            self.assertIs(value in file, value in RESULTS)
            self.assertIs(value not in file, value not in RESULTS)
        self.assertFalse(5 in File(BILL))
        file.back()
        self.assertFalse(8 in file)

    def test_any_value(self):
        for file in (File(BILL), filled(results=(0, 1)), filled(results=(0, 1) * 100)):
            for thing in (*NO_INTEGERS, *NO_TUPLES[1:3], -1, 2, 10 ** 6, 10 ** 59, -10 ** 59, RESULTS):
                self.assertIs(thing in file, False)

    def test_true_and_false_are_no_results(self):
        file = filled(results=(0, 1))
        self.assertTrue(0 in file and 1 in file)
        self.assertFalse(True in file or False in file)


class Under(Files):

    def test_over_a_trial(self):
        file = filled()
        told = under(file.trial(), lambda one: (one.add(1), one.row, one()))
        row = RESULTS + (1,)
        self.assertEqual(told, (pays(BILL, row)[-1], row, worth(BILL, row)))
        self.stands(file, BILL, RESULTS)

    def test_one_is_what_the_manager_gives(self):
        file = filled()
        self.assertIs(under(file.trial(), lambda one: one), file)
        self.assertIs(under(deed=lambda one: one, manager=file.trial()), file)

    def test_returns_what_the_deed_does(self):
        for thing in (*NO_INTEGERS, *NO_TUPLES, 0, (1, 2)):
            self.assertIs(under(filled().trial(), lambda _, kept=thing: kept), thing)
        self.assertIsNone(under(filled().trial(), lambda one: one.back()))

    def test_a_deed_that_ends_by_an_error(self):
        file = filled()
        error = Broken("there")

        def deed(one):
            one.add(1)
            raise error

        with self.assertRaises(Broken) as caught:
            under(file.trial(), deed)
        self.assertIs(caught.exception, error)
        self.stands(file, BILL, RESULTS)
        self.refused(Nothing, "value", 6, under, file.trial(), lambda one: one.back(many=6))
        self.stands(file, BILL, RESULTS)

    def test_one_in_another(self):
        file = filled()

        def inner(one):
            one.add(2)
            return one.row

        def outer(one):
            one.add(1)
            return under(one.trial(), inner), one.row

        self.assertEqual(under(file.trial(), outer), (RESULTS + (1, 2), RESULTS + (1,)))
        self.stands(file, BILL, RESULTS)

    def test_over_another_manager(self):
        told = []

        class Manager:
            def __enter__(self):
                told.append("begins")
                return (1, 2)

            def __exit__(self, kind, value, trace):
                told.append(kind)

        def deed(one):
            told.append(one)
            return sum(one)

        self.assertEqual(under(Manager(), deed), 3)
        self.assertEqual(told, ["begins", (1, 2), None])
        with self.assertRaises(ZeroDivisionError):
            under(Manager(), lambda one: 1 // 0)
        self.assertEqual(told[3:], ["begins", ZeroDivisionError])

    def test_over_a_manager_that_keeps_the_error(self):
        self.assertIsNone(under(self.subTest(), lambda one: one))

        class Keeps:
            def __enter__(self):
                return self

            def __exit__(self, kind, value, trace):
                return True

        self.assertIsNone(under(Keeps(), lambda one: 1 // 0))


class Record(Files):

    def test_a_record_kept_by_hand(self):
        chance = random.Random(9)
        for bill in (BILL, SIX_UP, *SIX, (3, ())):
            file, row, trials = File(bill), (), []
            for _ in range(250):
                deed = chance.choice(("add", "add", "add", "back", "bad", "copy", "trial", "end"))
                if deed == "add":
                    result = chance.randint(0, 20)
                    row += (result,)
                    self.assertEqual(file.add(result), pays(bill, row)[-1] if len(row) > width(bill) else None)
                elif deed == "back":
                    many = chance.randint(1, 5)
                    if many > len(row):
                        self.unmoved(file, Nothing, many, file.back, many=many)
                    else:
                        file.back(many=many)
                        row = row[:-many]
                elif deed == "bad":
                    self.unmoved(file, BadNumber, -1, file.add, -1)
                    self.unmoved(file, BadNumber, 0, file.back, many=0)
                    self.unmoved(file, BadNumber, 2, file.index, 2)
                elif deed == "copy" and not trials:
                    file.copy().add(7)
                    file = file.copy()
                elif deed == "trial":
                    trial = file.trial()
                    self.assertIs(trial.__enter__(), file)
                    trials.append((trial, row))
                elif deed == "end" and trials:
                    trial, row = trials.pop()
                    self.assertFalse(trial.__exit__(None, None, None))
                self.stands(file, bill, row)
