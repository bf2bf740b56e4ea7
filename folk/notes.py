"""Books written as rows of text, and read again."""

from folk.errors import NoRow
from folk.facts import FIELDS, PAIR_FIELDS, is_name, is_text, pair_fact, tidy


def is_passed_by(row):
    return row.strip(" ") == "" or row.startswith("#")


def told_rows(text):
    # The rows that tell something, each with its number: those passed by are counted too.
    rows = text.split("\n")
    return [(number, row) for number, row in enumerate(rows, start=1) if not is_passed_by(row)]


def fact_of(row):
    words = row.split(" ", 2)
    if len(words) < 3 or not is_name(words[0]):
        raise NoRow(1)
    if words[1] in FIELDS and is_text(words[2]):
        return tuple(words)
    if words[1] in PAIR_FIELDS and is_name(words[2]) and words[0] != words[2]:
        return pair_fact(words[0], words[1], words[2])
    raise NoRow(1)


def numbered_fact(number, row):
    try:
        return fact_of(row)
    except NoRow:
        raise NoRow(number) from None


def read_book(text):
    return tidy([numbered_fact(number, row) for number, row in told_rows(text)])


def show_book(book):
    return "\n".join([" ".join(fact) for fact in book])
