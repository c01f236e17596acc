"""A desk: a file that is asked by lines and answers by words."""

from bestoflast.bounds import greatest
from bestoflast.errors import BadText, Nothing, ResultError
from bestoflast.files import File
from bestoflast.texts import bill_text, number_in_row, read_bill, row_text
from bestoflast.worse import greatest_gain


def told(number):
    """The word for a number, or for None."""
    if number is None:
        return "none"
    return str(number)


def say_row(file):
    """The text of the ROW."""
    return row_text(file.row)


def say_worth(file):
    """The WORTH."""
    return told(file())


def say_greatest(file):
    """The GREATEST."""
    return told(greatest(file.bill))


def say_bill(file):
    """The text of the BILL, in one line."""
    return bill_text(file.bill).replace("\n", " / ")


def say_undo(file):
    """Takes back the last RESULT."""
    if len(file) == 0:
        return "nothing"
    file.back()
    return "done"


def say_add(file, word):
    """Adds a RESULT: what it pays."""
    return told(file.add(number_in_row(word)))


def say_index(file, word):
    """The INDEX by the RULE of a TERM."""
    return told(file.index(number_in_row(word)))


def say_gain(file, word):
    """The GREATEST GAIN of a kind."""
    return told(greatest_gain(file.bill, word))


DEEDS = {
    "row": say_row, "worth": say_worth, "greatest": say_greatest, "bill": say_bill, "undo": say_undo,
}
DEEDS_WITH_A_WORD = {"add": say_add, "index": say_index, "gain": say_gain}


def answer(file, words):
    """The answer to the words of a line."""
    if len(words) == 1 and words[0] in DEEDS:
        deed = DEEDS[words[0]]
        return deed(file)
    if len(words) == 2 and words[0] in DEEDS_WITH_A_WORD:
        deed_with_a_word = DEEDS_WITH_A_WORD[words[0]]
        return deed_with_a_word(file, words[1])
    raise BadText(1)


class Desk:
    """A desk with a file of the BILL of a text."""

    def __init__(self, text):
        self._file = File(read_bill(text))

    @property
    def file(self):
        """The file itself."""
        return self._file

    def say(self, line):
        """The answer to a line: "no" to what is none, and to what is refused."""
        if not isinstance(line, str):
            raise BadText(0)
        try:
            return answer(self._file, line.split(" "))
        except (ResultError, Nothing):
            return "no"
