"""A few mirrored numbers that come to any number together."""

from mirrorsums.figures import check_base
from mirrorsums.nearest import at_most


def a_few(number, base):
    """The greatest mirrored number at most a number, then of what is left, and so on: a new list."""
    check_base(base)
    told = []
    left = number
    while left > 0:
        greatest = at_most(left, base)
        told.append(greatest)
        left -= greatest
    return told
