"""Rules that speak for or against two cards being one person's, and their rows."""

from folk.errors import NoRow
from folk.facts import FIELDS, texts_of
from folk.letters import plain_of
from folk.notes import told_rows
from folk.ways import near_forms

FIGURES = "0123456789"
GREATEST = 1000000000


def shares(some, others):
    return len(set(some) & set(others)) > 0


def plains_of(texts):
    return [plain_of(text) for text in texts]


def all_forms(texts):
    forms = []
    for text in texts:
        forms.extend(near_forms(text))
    return forms


def was_called(book, one, other):
    names = texts_of(book, one, "name")
    formers = texts_of(book, other, "former")
    return shares(plains_of(names), plains_of(formers))


class Rule:
    def __init__(self, weight, field):
        self.weight = weight
        self.field = field

    def speaks(self, book, one, other):
        return self.speaks_by(texts_of(book, one, self.field), texts_of(book, other, self.field))

    # Rule itself is not made: the two below are told anew by each class under it.
    def speaks_by(self, texts, others):
        return False

    def sort_word(self):
        return ""


class Same(Rule):
    def speaks_by(self, texts, others):
        return shares(texts, others)

    def sort_word(self):
        return "same"


class Like(Rule):
    def speaks_by(self, texts, others):
        return shares(plains_of(texts), plains_of(others))

    def sort_word(self):
        return "like"


class Near(Rule):
    def speaks_by(self, texts, others):
        return shares(all_forms(texts), all_forms(others))

    def sort_word(self):
        return "near"


class Other(Rule):
    def speaks_by(self, texts, others):
        if texts == [] or others == []:
            return False
        return not shares(plains_of(texts), plains_of(others))

    def sort_word(self):
        return "other"


class Former(Rule):
    def __init__(self, weight):
        Rule.__init__(self, weight, "name")

    def speaks(self, book, one, other):
        return was_called(book, one, other) or was_called(book, other, one)

    def sort_word(self):
        return "former"


def made_rule(weight, field, word):
    if word == "same":
        return Same(weight, field)
    if word == "like":
        return Like(weight, field)
    if word == "near":
        return Near(weight, field)
    if word == "other":
        return Other(weight, field)
    if word == "former" and field == "name":
        return Former(weight)
    raise NoRow(1)


def is_amount(word):
    if word == "" or word[0] == "0" or len(word) > len(str(GREATEST)):
        return False
    return all([sign in FIGURES for sign in word]) and int(word) <= GREATEST


def read_rule(row):
    words = row.split(" ")
    if len(words) != 4 or words[0] not in ("for", "against"):
        raise NoRow(1)
    if not is_amount(words[1]) or words[2] not in FIELDS:
        raise NoRow(1)
    amount = int(words[1])
    return made_rule(amount if words[0] == "for" else -amount, words[2], words[3])


def numbered_rule(number, row):
    try:
        return read_rule(row)
    except NoRow:
        raise NoRow(number) from None


def read_rules(text):
    return [numbered_rule(number, row) for number, row in told_rows(text)]


def show_rule(rule):
    side = "for" if rule.weight > 0 else "against"
    return " ".join([side, str(abs(rule.weight)), rule.field, rule.sort_word()])
