"""Texts put plain, and texts that are like."""


def plain_of(text):
    words = [word for word in text.lower().split(" ") if word != ""]
    return " ".join(words)


def is_like(one, other):
    return plain_of(one) == plain_of(other)
