"""A desk that keeps books and rules, and is told orders as texts."""

from folk.errors import NoName, NoPair, NoRow
from folk.facts import FIELDS, is_name, is_text
from folk.groups import book_loss, groups_of, texts_told
from folk.hand import put_right, set_apart, set_free, set_same
from folk.notes import read_book, show_book
from folk.pouring import poured
from folk.rules import read_rules

# What stands behind the word of each order: a book that is there, the name of one that
# need not be there, a card, or a field.
FORMS = {
    "book": ("new",),
    "rules": (),
    "show": ("book",),
    "pour": ("new", "book", "book", "book"),
    "groups": ("book",),
    "loss": ("book",),
    "told": ("book", "card"),
    "hold": ("book", "card", "card"),
    "part": ("book", "card", "card"),
    "free": ("book", "card", "card"),
    "right": ("book", "card", "field"),
}
TAKING_ROWS = ("book", "rules", "right")
ASKING = ("show", "groups", "loss", "told")


def fits_form(word, form):
    return word in FIELDS if form == "field" else is_name(word)


def order_of(row):
    words = row.split(" ")
    if words[0] not in FORMS or len(words) != len(FORMS[words[0]]) + 1:
        raise NoRow(1)
    for word, form in zip(words[1:], FORMS[words[0]]):
        if not fits_form(word, form):
            raise NoRow(1)
    return words


def refuse_rows_behind(rows, last):
    for number, row in enumerate(rows[last:], start=last + 1):
        if row.strip(" ") != "":
            raise NoRow(number)


def text_in_row(rows, number):
    if len(rows) < number or not is_text(rows[number - 1]):
        raise NoRow(number)
    return rows[number - 1]


def rows_behind(rows):
    # The order's own row is left as one without signs, so that it is counted.
    return "\n".join([""] + rows[1:])


def group_with(rules, book, card):
    for group in groups_of(rules, book):
        if card in group:
            return group
    raise NoPair()


def shown_groups(groups):
    return " / ".join([" ".join(group) for group in groups])


def shown_text(field, text, cards):
    names = " ".join(cards)
    return f"{field} {text}; {names}"


def shown_texts(told):
    return "\n".join([shown_text(field, text, cards) for field, text, cards in told])


class Desk:
    def __init__(self):
        self.books = {}
        self.rules = []

    def say(self, text):
        rows = text.split("\n")
        words = order_of(rows[0])
        if words[0] not in TAKING_ROWS:
            refuse_rows_behind(rows, 1)
        self.refuse_names(words)
        if words[0] in ASKING:
            return self.answer(words)
        if words[0] == "rules":
            self.rules = read_rules(rows_behind(rows))
        else:
            self.books[words[1]] = self.changed_book(words, rows)
        return "ok"

    def refuse_names(self, words):
        for word, form in zip(words[1:], FORMS[words[0]]):
            if form == "book" and word not in self.books:
                raise NoName(word)

    def answer(self, words):
        book = self.books[words[1]]
        if words[0] == "show":
            return show_book(book)
        if words[0] == "groups":
            return shown_groups(groups_of(self.rules, book))
        if words[0] == "loss":
            return str(book_loss(self.rules, book))
        return shown_texts(texts_told(book, group_with(self.rules, book, words[2])))

    def changed_book(self, words, rows):
        if words[0] == "book":
            return read_book(rows_behind(rows))
        if words[0] == "pour":
            return poured(self.books[words[2]], self.books[words[3]], self.books[words[4]])
        book = self.books[words[1]]
        if words[0] == "hold":
            return set_same(book, words[2], words[3])
        if words[0] == "part":
            return set_apart(book, words[2], words[3])
        if words[0] == "free":
            return set_free(book, words[2], words[3])
        return self.righted_book(words, rows)

    def righted_book(self, words, rows):
        old = text_in_row(rows, 2)
        new = text_in_row(rows, 3)
        refuse_rows_behind(rows, 3)
        book = self.books[words[1]]
        return put_right(book, group_with(self.rules, book, words[2]), words[3], old, new)
