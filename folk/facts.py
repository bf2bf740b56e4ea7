"""Facts, the books that they make, and what a book tells of its cards."""

FIELDS = ("name", "former", "way", "day", "mark")
PAIR_FIELDS = ("same", "apart")
LETTERS = "abcdefghijklmnopqrstuvwxyz"
LONGEST_NAME = 12
LONGEST_TEXT = 40
# The percent sign, told by its number: no text of the program may hold it.
NO_SIGN = 37


def is_name(text):
    return 1 <= len(text) <= LONGEST_NAME and all([sign in LETTERS for sign in text])


def is_sign(sign):
    return " " <= sign <= "~" and ord(sign) != NO_SIGN


def is_text(text):
    if not 1 <= len(text) <= LONGEST_TEXT:
        return False
    return text == text.strip(" ") and all([is_sign(sign) for sign in text])


def pair_fact(one, field, other):
    return (min(one, other), field, max(one, other))


def tidy(facts):
    return sorted(set(facts))


def cards_of(book):
    names = [fact[0] for fact in book]
    told = [fact[2] for fact in book if fact[1] in PAIR_FIELDS]
    return sorted(set(names + told))


def texts_of(book, card, field):
    return sorted([fact[2] for fact in book if fact[0] == card and fact[1] == field])
