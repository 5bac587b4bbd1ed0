"""Numbers, their figures in a base, and which of them are mirrored."""

from mirrorsums.errors import NoBase, NoNumber

LEAST_BASE = 2
GREATEST_BASE = 36


def is_whole(thing):
    """Whether a thing is a whole number: an int that is no truth."""
    return isinstance(thing, int) and not isinstance(thing, bool)


def check_base(thing):
    """Refuse what is no base."""
    # The words tell nothing of the thing: one that is thousands deep cannot be shown.
    if not is_whole(thing) or not LEAST_BASE <= thing <= GREATEST_BASE:
        raise NoBase("a base is a whole number from 2 to 36")


def figures(number, base):
    """The figures of a number in a base: a new list, the greatest place first."""
    check_base(base)
    row = []
    left = number
    while left >= base:
        left, figure = divmod(left, base)
        row.append(figure)
    row.append(left)
    row.reverse()
    return row


def are_figures(thing, base):
    """Whether a thing is a list of figures that writes a number in a base."""
    if not isinstance(thing, list) or len(thing) == 0:
        return False
    for figure in thing:
        if not is_whole(figure) or not 0 <= figure < base:
            return False
    return len(thing) == 1 or thing[0] != 0


def number_of(thing, base):
    """The number that a list of figures writes in a base."""
    check_base(base)
    if not are_figures(thing, base):
        raise NoNumber("a number is a list of figures below the base, no nought ahead")
    number = 0
    for figure in thing:
        number = number * base + figure
    return number


def is_mirrored(thing, base):
    """Whether a thing is a number whose figures in a base read the same from behind."""
    check_base(base)
    if not is_whole(thing) or thing < 0:
        return False
    row = figures(thing, base)
    return row == row[::-1]
