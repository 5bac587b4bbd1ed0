"""The mirrored numbers nearest to a number, and their places among all of them.

A mirrored number is given by its length and its front: the number that its first
figures write, the middle one included. Of one length, a greater front is a greater
mirrored number; so all here is reckoned by fronts, without going through the numbers.
"""

from mirrorsums.errors import NoMirror
from mirrorsums.figures import check_base, figures, is_mirrored


def power(base, many):
    """The base, taken so many times."""
    product = 1
    for step in range(many):
        product *= base
    return product


def least_front(length, base):
    """The least front that a number of so many figures has."""
    return power(base, (length + 1) // 2 - 1)


def front_of(number, length, base):
    """The front of a number of so many figures."""
    return number // power(base, length // 2)


def from_front(front, length, base):
    """The mirrored number of so many figures that has this front."""
    mirrored = front
    # The middle figure of an odd length stands there once.
    left = front if length & 1 == 0 else front // base
    while left > 0:
        left, figure = divmod(left, base)
        mirrored = mirrored * base + figure
    return mirrored


def folded(number, base):
    """The length of a number, its front, and the mirrored number that has both."""
    length = len(figures(number, base))
    front = front_of(number, length, base)
    return length, front, from_front(front, length, base)


def many_to_length(length, base):
    """How many mirrored numbers above 0 have at most so many figures."""
    # Each number from 1 on is the front of just one mirrored number of odd length,
    # and of just one of even length.
    return power(base, (length + 1) // 2) - 1 + power(base, length // 2) - 1


def at_most(number, base):
    """The greatest mirrored number that is at most a number."""
    check_base(base)
    length, front, mirrored = folded(number, base)
    if mirrored <= number:
        return mirrored
    if front == least_front(length, base):
        # No lesser front has as many figures: the greatest number that is shorter is left.
        return power(base, length - 1) - 1
    return from_front(front - 1, length, base)


def at_least(number, base):
    """The least mirrored number that is at least a number."""
    check_base(base)
    length, front, mirrored = folded(number, base)
    if mirrored >= number:
        return mirrored
    # A front of greatest figures alone never comes here, so the next one is as long.
    return from_front(front + 1, length, base)


def many_to(number, base):
    """How many mirrored numbers there are from 1 to a number."""
    check_base(base)
    # 0 stands at place 0, so a place counts the mirrored numbers above 0 up to it.
    return place_of(at_most(number, base), base)


def mirrored_at(place, base):
    """The mirrored number at a place, 0 at place 0."""
    check_base(base)
    if place == 0:
        return 0
    length = 1
    while many_to_length(length, base) < place:
        length += 1
    behind = place - many_to_length(length - 1, base) - 1
    return from_front(least_front(length, base) + behind, length, base)


def place_of(thing, base):
    """The place of a mirrored number, the other way round than mirrored_at."""
    check_base(base)
    if not is_mirrored(thing, base):
        raise NoMirror("this is no mirrored number in the base")
    if thing == 0:
        return 0
    length = len(figures(thing, base))
    behind = front_of(thing, length, base) - least_front(length, base)
    return many_to_length(length - 1, base) + behind + 1


def mirrored_to(bound, base):
    """All mirrored numbers from 1 to a bound, rising: a new list."""
    told = []
    for length in range(1, len(figures(bound, base)) + 1):
        least = least_front(length, base)
        for front in range(least, least * base):
            mirrored = from_front(front, length, base)
            if mirrored > bound:
                return told
            told.append(mirrored)
    return told
