"""Papers: that a number is neither mirrored nor a sum of two mirrored ones above 0.

Of two that come to a number the lesser is at most half of it. So a paper tells of 0 and of
each mirrored number up to there a place at which what is left reads otherwise from behind.
"""

from mirrorsums.figures import check_base, figures, is_whole
from mirrorsums.nearest import at_least, mirrored_to


def first_unlike(row):
    """The first place with another figure than from behind, None where there is none."""
    for place in range(len(row)):
        if row[place] != row[len(row) - 1 - place]:
            return place
    return None


def paper_of(number, base):
    """The paper with each place the first there can be: a new list, None where there is none."""
    check_base(base)
    paper = []
    for mirrored in [0] + mirrored_to(number // 2, base):
        place = first_unlike(figures(number - mirrored, base))
        if place is None:
            return None
        paper.append((mirrored, place))
    return paper


def is_right(thing, mirrored, number, base):
    """Whether a thing is a tuple of this mirrored number and a place that tells what is left apart."""
    if not isinstance(thing, tuple) or len(thing) != 2:
        return False
    first, place = thing
    # Whole numbers alone are compared: a truth equals a number, and a thing may be thousands deep.
    if not is_whole(first) or not is_whole(place) or first != mirrored:
        return False
    row = figures(number - mirrored, base)
    return 0 <= place < len(row) and row[place] != row[len(row) - 1 - place]


def is_paper(number, base, thing):
    """Whether a thing is a paper of a number in a base."""
    check_base(base)
    if not is_whole(number) or number < 1 or not isinstance(thing, list):
        return False
    due = 0
    for row in thing:
        if due * 2 > number or not is_right(row, due, number, base):
            return False
        due = at_least(due + 1, base)
    return due * 2 > number
