"""The errors: which stands under which, and what each one keeps."""

from bestoflast import errors
from bestoflast.errors import (
    BadBill, BadKind, BadNumber, BadPaper, BadRow, BadRule, BadText, Nothing, ResultError,
)
from tests.helper import NO_INTEGERS, NO_TUPLES, Case

REFUSALS = {
    BadRule: "number",
    BadRow: "number",
    BadBill: "part",
    BadNumber: "value",
    BadKind: "value",
    BadPaper: "part",
    BadText: "line",
}
KEPT = {**REFUSALS, Nothing: "value"}
THINGS = (*NO_INTEGERS, *NO_TUPLES, 3, -3, "own", "terms", "a\nb", ((1, 2), -1, 0), {"a": [1]}, 1.5)


class Errors(Case):

    def test_the_base_stands_under_value_error(self):
        self.assertEqual(ResultError.__bases__, (ValueError,))

    def test_refusals_stand_straight_under_the_base(self):
        for error in REFUSALS:
            self.assertEqual(error.__bases__, (ResultError,))

    def test_nothing_stands_under_lookup_error_alone(self):
        self.assertEqual(Nothing.__bases__, (LookupError,))
        self.assertFalse(issubclass(Nothing, ResultError))
        self.assertFalse(issubclass(Nothing, ValueError))

    def test_none_stands_under_another_one(self):
        for error in KEPT:
            for other in KEPT:
                self.assertEqual(issubclass(error, other), error is other)

    def test_eight_errors_and_their_base(self):
        found = {
            thing for thing in vars(errors).values()
            if isinstance(thing, type) and issubclass(thing, BaseException)
        }
        self.assertEqual(found, {ResultError, *KEPT})
        for error in found:
            self.assertEqual(error.__module__, "bestoflast.errors")

    def test_made_by_place(self):
        for error, name in KEPT.items():
            for thing in THINGS:
                self.assertIs(getattr(error(thing), name), thing)

    def test_made_by_name(self):
        for error, name in KEPT.items():
            for thing in THINGS:
                self.assertIs(getattr(error(**{name: thing}), name), thing)

    def test_nothing_else_is_kept(self):
        for error, name in KEPT.items():
            self.assertEqual(vars(error(3)), {name: 3})

    def test_made_with_one_thing_only(self):
        for error in KEPT:
            for told in ((), (1, 2)):
                with self.assertRaises(TypeError):
                    error(*told)
            with self.assertRaises(TypeError):
                error(other=1)

    def test_a_list_stays_the_callers(self):
        told = [1, 2]
        for error, name in KEPT.items():
            kept = getattr(error(told), name)
            self.assertIs(kept, told)
        self.assertEqual(told, [1, 2])

    def test_caught_by_the_base_with_what_they_keep(self):
        for error, name in REFUSALS.items():
            for base in (error, ResultError, ValueError):
                try:
                    raise error("x")
                except base as caught:
                    self.assertEqual(getattr(caught, name), "x")

    def test_nothing_is_caught_as_a_lookup_error(self):
        for base in (Nothing, LookupError):
            try:
                raise Nothing(200)
            except base as caught:
                self.assertEqual(caught.value, 200)

    def test_the_base_is_made_of_things_as_well(self):
        for told in ((), ("x",), (None,), (1, 2)):
            with self.assertRaises(ValueError):
                raise ResultError(*told)
