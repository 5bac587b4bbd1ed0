"""Ways as texts, and numbers by figures of ten."""

from mirrorsums.errors import NoText

FIGURES_OF_TEN = "0123456789"
WAY_OF_NONE = "0"
MOST_FIGURES = 40


def is_written(word, most):
    """Whether a word is a number by at most so many figures of ten, no nought ahead but alone."""
    if not 1 <= len(word) <= most:
        return False
    for sign in word:
        if sign not in FIGURES_OF_TEN:
            return False
    return len(word) == 1 or word[0] != "0"


def show_way(way):
    """The text of a way."""
    if len(way) == 0:
        return WAY_OF_NONE
    return " + ".join([str(part) for part in way])


def read_way(text):
    """The way that a text writes, the other way round than show_way: a new list."""
    if not isinstance(text, str):
        raise NoText("a way is read from a text")
    if text == WAY_OF_NONE:
        return []
    way = []
    for word in text.split(" + "):
        # Nought stands alone for the way of none; it is no part.
        if word == WAY_OF_NONE or not is_written(word, MOST_FIGURES):
            raise NoText("a part is a number above 0 of at most forty figures, no nought ahead")
        part = int(word)
        if len(way) > 0 and part > way[-1]:
            raise NoText("no part is greater than the one ahead")
        way.append(part)
    return way
