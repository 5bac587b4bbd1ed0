"""The way of a number that has the fewest mirrored ones."""

from mirrorsums.figures import check_base, is_mirrored
from mirrorsums.nearest import mirrored_to


def greatest_pair(number, parts, known):
    """The greatest way by two of these rising parts, None where there is none."""
    for lesser in parts:
        greater = number - lesser
        if greater < lesser:
            return None
        if greater in known:
            return [greater, lesser]
    return None


def greatest_way(number, many, parts, known):
    """The greatest way by so many, two or more, of these rising parts, None where there is none."""
    if many == 2:
        return greatest_pair(number, parts, known)
    for part in reversed(parts):
        # The first part is the greatest, so it is at least an even share of the number.
        if part * many < number:
            return None
        if part < number:
            # None of the others is greater than this part: it would have been found as the first.
            others = greatest_way(number - part, many - 1, parts, known)
            if others is not None:
                return [part] + others
    return None


def fewest(number, base):
    """The way with the fewest mirrored ones, of several the greatest: a new list."""
    check_base(base)
    if number == 0:
        return []
    if is_mirrored(number, base):
        return [number]
    parts = mirrored_to(number, base)
    known = {part: True for part in parts}
    many = 2
    way = greatest_way(number, many, parts, known)
    # This comes to an end: 1 is mirrored in every base, so there is a way by ones.
    while way is None:
        many += 1
        way = greatest_way(number, many, parts, known)
    return way
