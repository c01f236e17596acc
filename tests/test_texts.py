"""BILLS and ROWS as texts, and back: bill_text, read_bill, row_text, read_row."""

from bestoflast.errors import BadBill, BadRow, BadText
from bestoflast.texts import bill_text, read_bill, read_row, row_text
from tests.helper import NO_TUPLES, Case, Thing, rows
from tests.search import BEST, SIX, SIX_UP, SMALL, bills_by_chance

NO_STRINGS = (
    None, True, False, 0, 1, -1, 10 ** 59, b"own 1", b"", [], ["own 1"], ("own 1",), (), {}, set(),
    {"own 1": 1}, range(2), object(), Thing(), len, str, ValueError("own 1"), ...,
)
TEXTS = (
    ((0, ()), "own 0"),
    ((7, ()), "own 7"),
    ((-50, ()), "own -50"),
    ((50, ()), "own 50"),
    ((2, ((BEST, -1, 0),)), "own 2\nterm -1 0 0 1 1"),
    ((0, (((1,), 0, 0), ((-20, 20), 50, -50))), "own 0\nterm 0 0 1\nterm 50 -50 -20 20"),
    (SIX_UP, "own 0\nterm -1 1 0 0 0 1 1 1\nterm -2 2 1 0 0 0 0 0"),
    (
        (-50, (((-20,) * 6, -50, 50), ((20,) * 6, 50, -50))),
        "own -50\nterm -50 50 -20 -20 -20 -20 -20 -20\nterm 50 -50 20 20 20 20 20 20",
    ),
)
# Words that are no number of a text, of as many figures as one of a bill may have.
NO_NUMBERS = (
    "", "-", "+", "+1", "+0", "-0", "00", "01", "-01", "000", "-00", "007", "--1", "1-", "-+1", "1.", "1.5",
    "1e1", "x", "0x1", "1_0", "a1", "1a", "none", "True", "own", "(1)", "1,", ",", "1\t",
)
ROWS = (
    ((), "none"),
    ((0,), "0"),
    ((10 ** 6,), "1000000"),
    ((5, 9, 0, 7), "5 9 0 7"),
    ((0,) * 200, " ".join(["0"] * 200)),
    ((10 ** 6,) * 200, " ".join(["1000000"] * 200)),
)


class BillText(Case):

    def test_by_hand(self):
        for bill, text in TEXTS:
            self.assertEqual(bill_text(bill), text)
            self.assertEqual(read_bill(text), bill)

    def test_there_and_back(self):
        for bill in (*SMALL, *SIX, *bills_by_chance(200, (1, 2, 3, 4, 5, 6), seed=41)):
            text = self.unchanged(bill_text, bill)
            self.assertIs(text.__class__, str)
            self.assertEqual(self.unchanged(read_bill, text), bill)

    def test_every_number_there_and_back(self):
        for number in range(-50, 51):
            bill = (number, (((number % 41 - 20,), number, -number), ((0, 1), -number, number)))
            self.assertEqual(read_bill(bill_text(bill)), bill)

    def test_kinds_of_what_is_read(self):
        own, terms = read_bill("own 1\nterm -1 0 0 1 1\nterm 1 2 3")
        self.assertEqual((own, terms), (1, (((0, 1, 1), -1, 0), ((3,), 1, 2))))
        self.assertIs(terms.__class__, tuple)
        for term in terms:
            self.assertIs(term.__class__, tuple)
            self.assertIs(term[0].__class__, tuple)
            self.assertTrue(all(number.__class__ is int for number in (own, *term[0], *term[1:])))

    def test_by_name(self):
        self.assertEqual(bill_text(bill=(2, ())), "own 2")
        self.assertEqual(read_bill(string="own 2"), (2, ()))

    def test_no_bill(self):
        for thing in (*NO_TUPLES, (), (1,), "own 1"):
            self.refused(BadBill, "part", "form", bill_text, thing)
        self.refused(BadBill, "part", "own", bill_text, (51, ()))
        self.refused(BadBill, "part", "own", bill_text, (True, ()))
        self.refused(BadBill, "part", "terms", bill_text, (1, None))
        self.refused(BadBill, "part", 0, bill_text, (1, (None,)))
        self.refused(BadBill, "part", 1, bill_text, (1, ((BEST, 0, 0), (BEST, 51, 0))))


class ReadBill(Case):

    def bad(self, line, text):
        self.refused(BadText, "line", line, read_bill, text)

    def test_no_string(self):
        for thing in NO_STRINGS:
            self.bad(0, thing)

    def test_empty_texts(self):
        for text in ("", "\n", "\nown 1", "\n\n\n", " ", " \n", "none"):
            self.bad(1, text)

    def test_newlines(self):
        self.bad(2, "own 1\n")
        self.bad(2, "own 1\n\n")
        self.bad(2, "own 1\n\nterm 1 2 3")
        self.bad(3, "own 1\nterm 1 2 3\n")
        self.bad(4, "own 1\nterm 1 2 3\nterm 1 2 3\n")
        self.bad(1, "own 1\tterm 1 2 3")
        self.bad(1, "own 1 term 1 2 3")

    def test_blanks(self):
        for text in (" own 1", "own 1 ", "own  1", "own1", "own\t1", "own ", "own", " own", "own 1  "):
            self.bad(1, text)
        for row in (" term 1 2 3", "term 1 2 3 ", "term  1 2 3", "term 1  2 3", "term1 2 3 4", "term 1 2  3"):
            self.bad(2, "own 1\n" + row)
            self.bad(2, "own 1\n" + row + "\nterm 1 2 3")
            self.bad(3, "own 1\nterm 1 2 3\n" + row)

    def test_words(self):
        for text in ("Own 1", "OWN 1", "owns 1", "ow 1", "term 1", "1", "1 own", "own 1 own", "- 1", "term 1 2 3"):
            self.bad(1, text)
        for row in ("Term 1 2 3", "own 1", "own 1 2 3", "terms 1 2 3", "1 2 3", "1 2 3 4", "term a 2 3", "ter 1 2 3"):
            self.bad(2, "own 1\n" + row)
            self.bad(3, "own 1\nterm 1 2 3\n" + row)

    def test_too_few_or_too_many_numbers(self):
        for row in ("own 1 2", "own 1 2 3", "own"):
            self.bad(1, row)
        for many in range(12):
            row = " ".join(["term"] + ["1"] * many)
            if 3 <= many <= 8:
                self.assertEqual(read_bill("own 1\n" + row), (1, (((1,) * (many - 2), 1, 1),)))
            else:
                self.bad(2, "own 1\n" + row)
                self.bad(3, "own 1\nterm 1 1 1\n" + row)
        self.bad(2, "own 1\nterm " + "1 " * 3000 + "1")

    def test_rows_too_many(self):
        term = "\nterm 1 2 3"
        for many in range(3, 6):
            self.bad(4, "own 1" + term * many)
        self.bad(4, "own 1" + term * 2 + "\n\n\n")
        self.bad(2, "own 1\nterm" + term * 3)
        self.bad(1, "own" + term * 3)
        self.bad(4, "own 1" + term * 1800)

    def test_no_numbers(self):
        for word in NO_NUMBERS:
            self.bad(1, "own " + word)
            self.bad(1, "own " + word + "\nterm 1")
            for at in range(8):
                words = ["1"] * at + [word] + ["1"] * (7 - at)
                self.bad(2, "own 1\nterm " + " ".join(words))
                self.bad(3, "own 1\nterm 1 2 3\nterm " + " ".join(words))

    def test_numbers_of_too_many_figures(self):
        for word in ("1000", "-1000", "9999", "0001", "12345", "1" * 60, "-" + "1" * 60, "9" * 19000):
            self.bad(1, "own " + word)
            self.bad(2, "own 1\nterm " + word + " 1 1")
            self.bad(2, "own 1\nterm 1 1 " + word)
            self.bad(3, "own 1\nterm 1 1 1\nterm 1 1 1 " + word)

    def test_other_signs_for_figures(self):
        # A sign that Python takes for a figure, too.
        for word in ("\u0663", "\u00b2", "\u0967", "1\u0663", "\uff11"):
            self.bad(1, "own " + word)

    def test_the_first_row_that_can_not_stand_is_told(self):
        self.bad(1, "own\nterm\nterm")
        self.bad(2, "own 1\nterm\nterm")
        self.bad(3, "own 1\nterm 1 1 1\nterm")
        self.bad(2, "own 1\nterm 1 1\nterm 1 1 1\nterm 1 1 1")

    def test_behind_that_the_bill(self):
        for word in ("51", "-51", "100", "999", "-999"):
            self.refused(BadBill, "part", "own", read_bill, "own " + word)
            self.refused(BadBill, "part", "own", read_bill, "own " + word + "\nterm 999 999 999")
            for at in (0, 1):
                words = ["1"] * at + [word] + ["1"] * (2 - at)
                self.refused(BadBill, "part", 0, read_bill, "own 1\nterm " + " ".join(words))
                self.refused(BadBill, "part", 1, read_bill, "own 1\nterm 1 1 1\nterm " + " ".join(words))
        for word in ("21", "-21", "50", "999"):
            for at in range(6):
                words = ["1"] * (2 + at) + [word] + ["1"] * (5 - at)
                self.refused(BadBill, "part", 0, read_bill, "own 1\nterm " + " ".join(words))
                self.refused(BadBill, "part", 1, read_bill, "own 1\nterm 1 1 1\nterm " + " ".join(words))

    def test_the_form_is_told_ahead_of_the_bill(self):
        self.bad(2, "own 999\nterm")
        self.bad(3, "own 999\nterm 999 1 1\nterm")
        self.bad(4, "own 999\nterm 999 1 1\nterm 1 1 1\nterm 1 1 1")


class RowText(Case):

    def test_by_hand(self):
        for row, text in ROWS:
            self.assertEqual(row_text(row), text)
            self.assertEqual(read_row(text), row)

    def test_there_and_back(self):
        for row in (*rows(200, 30, 10 ** 6, seed=42), *rows(50, 200, 9, seed=43)):
            text = self.unchanged(row_text, row)
            self.assertIs(text.__class__, str)
            told = self.unchanged(read_row, text)
            self.assertEqual(told, row)
            self.assertIs(told.__class__, tuple)
            self.assertTrue(all(result.__class__ is int for result in told))

    def test_by_name(self):
        self.assertEqual(row_text(row=(1, 2)), "1 2")
        self.assertEqual(read_row(string="1 2"), (1, 2))

    def test_no_row(self):
        for thing in (*NO_TUPLES, (1,) * 201):
            self.refused(BadRow, "number", None, row_text, thing)
        self.refused(BadRow, "number", 1, row_text, (1, -1))
        self.refused(BadRow, "number", 0, row_text, (True, 1))
        self.refused(BadRow, "number", 2, row_text, (0, 1, 10 ** 6 + 1))


class ReadRow(Case):

    def bad(self, line, text):
        self.refused(BadText, "line", line, read_row, text)

    def test_no_string(self):
        for thing in NO_STRINGS:
            self.bad(0, thing)

    def test_empty_texts_and_blanks(self):
        for text in ("", " ", "  ", "\n", " 1", "1 ", "1  2", "1\n", "\n1", "1\n2", "1 2\n", "1\t2", "none ", " none"):
            self.bad(1, text)

    def test_none(self):
        self.assertEqual(read_row("none"), ())
        for text in ("None", "none none", "none 1", "1 none", "none\n", "nones", "NONE"):
            self.bad(1, text)

    def test_no_numbers(self):
        for word in NO_NUMBERS:
            if word != "none":
                self.bad(1, word)
            for at in range(3):
                words = ["1"] * at + [word] + ["1"] * (2 - at)
                self.bad(1, " ".join(words))

    def test_numbers_of_too_many_figures(self):
        for word in ("10000000", "-10000000", "99999999", "00000001", "1" * 60, "9" * 19000):
            self.bad(1, word)
            self.bad(1, "1 " + word)
            self.bad(1, word + " 1")

    def test_other_signs_for_figures(self):
        for word in ("\u0663", "\u00b2", "1\u0663"):
            self.bad(1, word)

    def test_behind_that_the_row(self):
        for word in ("-1", "-9999999", "1000001", "9999999", "-1000000"):
            self.refused(BadRow, "number", 0, read_row, word)
            self.refused(BadRow, "number", 2, read_row, "0 1000000 " + word + " -1")
        self.refused(BadRow, "number", None, read_row, " ".join(["1"] * 201))
        self.refused(BadRow, "number", None, read_row, " ".join(["-1"] * 201))
        self.refused(BadRow, "number", 199, read_row, " ".join(["1"] * 199 + ["-1"]))

    def test_the_form_is_told_ahead_of_the_row(self):
        self.bad(1, "-1 x")
        self.bad(1, "1000001 01")
        self.bad(1, " ".join(["1"] * 201 + ["x"]))
