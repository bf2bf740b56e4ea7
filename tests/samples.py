"""What several tests ask with: the signs that texts may have, and small texts."""

SIGNS = "".join(chr(code) for code in range(ord(" "), ord("~") + 1) if chr(code) != "%")


def texts_up_to(length, signs):
    """Every text of at most so many of these signs, the shortest ones first."""
    texts = [""]
    last = [""]
    for _ in range(length):
        last = [text + sign for text in last for sign in signs]
        texts.extend(last)
    return texts
