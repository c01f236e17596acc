"""A desk: Desk, say, file."""

import random

from bestoflast import desk
from bestoflast.bills import width
from bestoflast.bounds import greatest
from bestoflast.desk import Desk
from bestoflast.errors import BadBill, BadText
from bestoflast.files import File
from bestoflast.rules import index
from bestoflast.texts import bill_text
from bestoflast.worse import greatest_gain
from tests.helper import NO_TUPLES, Case
from tests.search import SIX, SMALL, bills_by_chance
from tests.test_bills import pays_by_hand

TEXT = "own 2\nterm -1 0 0 1 1"
MOVES = "own 0\nterm -1 1 0 1 1"
BILLS = (*SMALL, *SIX, *bills_by_chance(20, (1, 2, 3, 6), seed=81))
NO_STRINGS = [
    thing for thing in (*NO_TUPLES, (), ("row",), ["row"], b"row", 5) if not isinstance(thing, str)
]
# Lines that stand for something; what is near them is none.
LINES = ("add 5", "row", "worth", "index 0", "greatest", "gain any", "gain once", "bill", "undo")
NO_LINES = (
    "", " ", "  ", "\n", "none", "no", "done", "nothing", "own 2", "term", "Add 5", "ADD 5", "Row", "rows", "ro",
    "add", "add ", "index", "index ", "gain", "gain ", "add 5 6", "add 5 ", "add  5", " add 5", "add 5 5",
    "row 1", "row row", "worth 0", "worth none", "greatest 1", "greatest any", "bill 0", "undo 1", "undo undo",
    "index 0 0", "gain any once", "gain any ", "gain  any", " gain any", "gain anyonce", "gain Any", "gain none",
    "gain 0", "gain once ", "gain ones", "add none", "add five", "add x", "add 0x5", "add 5.0", "add 5.", "add 1e3",
    "add 1_0", "add 1,0", "add 05", "add 00", "add +5", "add -0", "add --5", "add -", "add +", "add - 5", "add 5-",
    "add 0005", "add -05", "add 00000005", "add 12345678", "add 10000000", "add 123456789012", "add -12345678",
    "index 00", "index +0", "index -0", "index 01", "index 0.0", "index any", "index 00000000", "index none",
    "add\t5", "add\n5", "add 5\n", "\nadd 5", "row\n", "row\nrow", "undo\n", "bill\n", "gain any\n", "gain\nany",
    "index 0\n", "worth\n", "greatest\n", "add 5\nadd 6", "add 5 # five", "add(5)", "add:5", "row;", "a", "~" * 20000,
    "add " + "5" * 19000, "add " * 5000, " " * 20000, "undo" * 5000,
)
# Lines that a file refuses what they ask for.
REFUSED = (
    "add -1", "add -5", "add 1000001", "add 9999999", "add -1000000", "index 1", "index 2", "index -1", "index 9999999",
    "index -9999999",
)


def told(thing):
    """The word for a number or for None."""
    return "none" if thing is None else str(thing)


class Record:
    """What a desk has to answer, kept by hand."""

    def __init__(self, bill):
        self.bill = bill
        self.row = []

    def answer(self, line):
        word, *more = line.split(" ")
        if word == "add":
            return self.add(int(more[0]))
        if word == "index":
            return self.index(int(more[0]))
        if word == "row":
            return " ".join(map(str, self.row)) if self.row else "none"
        if word == "worth":
            return str(sum(pays_by_hand(self.bill, tuple(self.row)))) if len(self.row) >= width(self.bill) else "none"
        if word == "undo":
            self.row, left = self.row[:-1], len(self.row)
            return "done" if left else "nothing"
        if word == "bill":
            return " / ".join(bill_text(self.bill).split("\n"))
        return told(greatest(self.bill) if word == "greatest" else greatest_gain(self.bill, more[0]))

    def add(self, result):
        if not 0 <= result <= 10 ** 6 or len(self.row) == 200:
            return "no"
        self.row.append(result)
        return str(pays_by_hand(self.bill, tuple(self.row))[-1]) if len(self.row) > width(self.bill) else "none"

    def index(self, number):
        if not 0 <= number < len(self.bill[1]):
            return "no"
        rule = self.bill[1][number][0]
        return str(index(rule, tuple(self.row))) if len(self.row) >= len(rule) else "none"


class Say(Case):

    def test_by_hand(self):
        one = Desk(TEXT)
        for line, answer in (
            ("row", "none"), ("worth", "none"), ("index 0", "none"), ("undo", "nothing"),
            ("add 5", "none"), ("row", "5"), ("index 0", "none"), ("worth", "none"), ("add 9", "none"),
            ("worth", "none"), ("add 7", "none"), ("worth", "0"), ("index 0", "16"), ("add 2", "-12"),
            ("worth", "-12"), ("index 0", "16"), ("row", "5 9 7 2"), ("add 1000000", "1999984"),
            ("worth", "1999972"), ("add 1000001", "no"), ("row", "5 9 7 2 1000000"), ("undo", "done"),
            ("row", "5 9 7 2"), ("worth", "-12"), ("bill", "own 2 / term -1 0 0 1 1"), ("greatest", "3"),
            ("gain any", "none"), ("gain once", "2"), ("index 1", "no"), ("gain twice", "no"), ("", "no"),
            ("undo", "done"), ("undo", "done"), ("undo", "done"), ("row", "5"), ("undo", "done"),
            ("row", "none"), ("undo", "nothing"), ("add 0", "none"), ("row", "0"),
        ):
            self.assertEqual(one.say(line), answer, line)

    def test_greatest_and_gains(self):
        one = Desk(MOVES)
        self.assertEqual([one.say(line) for line in ("greatest", "gain any", "gain once")], ["2", "2", "1"])
        one = Desk("own 1")
        self.assertEqual([one.say(line) for line in ("greatest", "gain any", "gain once")], ["none", "none", "1"])
        one = Desk("own -1")
        self.assertEqual([one.say(line) for line in ("greatest", "gain any", "gain once")], ["0", "0", "0"])

    def test_bills_in_one_line(self):
        for text in ("own 0", "own -50", TEXT, MOVES, "own 1\nterm 0 0 1\nterm -50 50 20 20 20 20 20 -20"):
            self.assertEqual(Desk(text).say("bill"), text.replace("\n", " / "))

    def test_against_a_record_kept_by_hand(self):
        chance = random.Random(9)
        answers = []
        for bill in BILLS:
            one, record = Desk(bill_text(bill)), Record(bill)
            for _ in range(60):
                line = chance.choice((
                    f"add {chance.randint(0, 9)}", f"add {chance.randint(0, 10 ** 6)}", "add 1", "add 0",
                    f"add {chance.choice((-1, 10 ** 6 + 1, 10 ** 6, 9999999))}", "row", "worth", "index 0",
                    f"index {chance.randint(-2, 3)}", "undo", "undo",
                ))
                answers.append(one.say(line))
                self.assertEqual(answers[-1], record.answer(line), (bill, line))
                self.assertEqual(one.file.row, tuple(record.row))
            for line in ("greatest", "gain any", "gain once", "bill", "row", "worth"):
                answers.append(one.say(line=line))
                self.assertEqual(answers[-1], record.answer(line), (bill, line))
        for answer in ("none", "nothing", "done", "no", "0"):
            self.assertGreater(answers.count(answer), 10, answer)
        self.assertTrue(all(answer.__class__ is str for answer in answers))

    def test_a_file_of_200(self):
        one = Desk(TEXT)
        record = Record(one.file.bill)
        for number in range(200):
            self.assertEqual(one.say(f"add {number}"), record.answer(f"add {number}"))
        row = one.file.row
        self.assertEqual(len(row), 200)
        for line in ("add 1", "add 0", "add 1000000"):
            self.assertEqual(one.say(line), "no")
            self.assertEqual(one.file.row, row)
        for line in ("row", "worth", "index 0", "undo", "add 7", "add 8", "row"):
            self.assertEqual(one.say(line), record.answer(line))

    def test_what_is_answered_with_no(self):
        for text in ("own 2", TEXT):
            one = Desk(text)
            other = File(one.file.bill)
            for result in (5, 9, 7, 2):
                one.say(f"add {result}")
                other.add(result)
            for line in (*NO_LINES, *REFUSED):
                self.assertEqual(one.say(line), "no", line)
                self.assertTrue(one.file == other, line)
            self.assertEqual(one.say("index 0"), "no" if text == "own 2" else "16")

    def test_a_sign_more_or_a_word_more(self):
        one = Desk(TEXT)
        one.say("add 3")
        for line in LINES:
            near = [line + sign for sign in " \n0x."] + [sign + line for sign in " \n0x."]
            near += [line.replace(" ", "  "), line.replace(" ", "\n"), line.replace(" ", "")] if " " in line else []
            for wrong in (*near, line + " 1", line + " any", line.upper(), line.title(), line[:-1] + "\n", line * 2):
                if wrong not in ("add 50",):
                    self.assertEqual(one.say(wrong), "no", wrong)
                    self.assertEqual(one.file.row, (3,))

    def test_numbers_that_can_stand(self):
        one = Desk("own 1\nterm 0 0 1\nterm 0 0 1 1")
        for word in ("0", "1", "10", "999999", "1000000"):
            self.assertNotEqual(one.say("add " + word), "no")
            self.assertEqual(one.file.row[-1], int(word))
        for word in ("0", "1"):
            self.assertNotEqual(one.say("index " + word), "no")
        self.assertEqual(one.say("index 2"), "no")

    def test_no_string(self):
        one = Desk(TEXT)
        one.say("add 3")
        for thing in NO_STRINGS:
            self.refused(BadText, "line", 0, one.say, thing)
            self.refused(BadText, "line", 0, one.say, line=thing)
        self.assertEqual(one.file.row, (3,))


class Files(Case):

    def test_the_very_file(self):
        one = Desk(TEXT)
        self.assertIs(one.file.__class__, File)
        self.assertIs(one.file, one.file)
        self.assertEqual(one.file.bill, (2, (((0, 1, 1), -1, 0),)))
        self.assertEqual(one.file.row, ())

    def test_results_that_are_added_by_itself(self):
        one = Desk(TEXT)
        file = one.file
        for result in (5, 9, 7):
            file.add(result)
        self.assertEqual(one.say("row"), "5 9 7")
        self.assertEqual(one.say("add 2"), "-12")
        self.assertEqual(file.row, (5, 9, 7, 2))
        self.assertEqual((file(), one.say("worth")), (-12, "-12"))
        file.back(many=2)
        self.assertEqual(one.say("row"), "5 9")
        self.assertEqual(one.say("undo"), "done")
        self.assertEqual(file.row, (5,))
        with file.trial() as same:
            same.add(8)
            self.assertEqual(one.say("row"), "5 8")
        self.assertEqual(one.say("row"), "5")

    def test_desks_do_not_share(self):
        one, other = Desk(TEXT), Desk(TEXT)
        one.say("add 5")
        self.assertEqual((one.say("row"), other.say("row")), ("5", "none"))

    def test_file_can_not_be_another_one(self):
        one = Desk(TEXT)
        with self.assertRaises(AttributeError):
            one.file = File((0, ()))

    def test_its_methods_are_its_own(self):
        self.assertIs(vars(desk)["Desk"].__module__, Desk.__module__)
        self.assertEqual({"__init__", "say", "file"} - {*vars(Desk)}, set())
        self.assertIsInstance(vars(Desk)["file"], property)


class Texts(Case):

    def test_by_name(self):
        self.assertEqual(Desk(text=TEXT).say(line="bill"), "own 2 / term -1 0 0 1 1")

    def test_no_text(self):
        for thing in NO_STRINGS:
            self.refused(BadText, "line", 0, Desk, thing)
        for text, line in (
            ("", 1), ("own", 1), ("own 1 2", 1), ("own  1", 1), ("own 01", 1), ("own 1\n", 2), ("own 1\nterm 1 1", 2),
            (TEXT + "\nrow", 3), (TEXT + "\nterm 1 1 1\nterm 1 1 1", 4), ("own 1 / term 1 1 1", 1), ("own 1000", 1),
        ):
            self.refused(BadText, "line", line, Desk, text)

    def test_no_bill(self):
        for text, part in (
            ("own 51", "own"), ("own -51\nterm 51 0 1", "own"), ("own 1\nterm 51 0 1", 0), ("own 1\nterm 0 0 21", 0),
            ("own 1\nterm 0 0 1\nterm 0 -51 1", 1),
        ):
            self.refused(BadBill, "part", part, Desk, text)
