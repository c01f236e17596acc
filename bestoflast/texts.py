"""BILLS and ROWS as texts, and back."""

from bestoflast.bills import MOST_TERMS, need_bill
from bestoflast.errors import BadText
from bestoflast.rules import MOST_WEIGHTS, need_row

FIGURES = "0123456789"
FIGURES_OF_A_BILL = 3
FIGURES_OF_A_ROW = 7
NO_RESULTS = "none"


def words_of(numbers):
    """The numbers, single blanks between."""
    return " ".join([str(number) for number in numbers])


def bill_text(bill):
    """The text of a BILL."""
    own, terms = need_bill(bill)
    rows = [f"own {own}"]
    for rule, ahead, behind in terms:
        rows.append("term " + words_of((ahead, behind) + rule))
    return "\n".join(rows)


def row_text(row):
    """The text of a ROW."""
    need_row(row)
    if len(row) == 0:
        return NO_RESULTS
    return words_of(row)


def is_number(word, most):
    """Whether a word is an integer as texts have it, of at most so many figures."""
    figures = word.removeprefix("-")
    if not 1 <= len(figures) <= most or not all([sign in FIGURES for sign in figures]):
        return False
    return figures[0] != "0" or word == "0"


def are_numbers(words, most):
    """Whether all words are integers as texts have them, of at most so many figures."""
    return all([is_number(word, most) for word in words])


def can_stand(words, number):
    """Whether the words can be the row of this number, from 1, in the text of a BILL."""
    if number > 1 + MOST_TERMS:
        return False
    if number == 1:
        fits = words[0] == "own" and len(words) == 2
    else:
        # AHEAD and BEHIND stand there, and the weights.
        fits = words[0] == "term" and 3 <= len(words) - 1 <= 2 + MOST_WEIGHTS
    return fits and are_numbers(words[1:], FIGURES_OF_A_BILL)


def read_bill(string):
    """The BILL of a text."""
    if not isinstance(string, str):
        raise BadText(0)
    rows = [line.split(" ") for line in string.split("\n")]
    for number, words in enumerate(rows, start=1):
        if not can_stand(words, number):
            raise BadText(number)
    numbers = [[int(word) for word in words[1:]] for words in rows]
    terms = [(tuple(told[2:]), told[0], told[1]) for told in numbers[1:]]
    return need_bill((numbers[0][0], tuple(terms)))


def number_in_row(word):
    """The integer of a word, as texts of ROWS have it."""
    if not is_number(word, FIGURES_OF_A_ROW):
        raise BadText(1)
    return int(word)


def read_row(string):
    """The ROW of a text."""
    if not isinstance(string, str):
        raise BadText(0)
    if string == NO_RESULTS:
        return ()
    return need_row(tuple([number_in_row(word) for word in string.split(" ")]))
