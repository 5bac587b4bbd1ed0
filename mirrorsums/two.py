"""The ways of a number by two mirrored ones."""

from mirrorsums.figures import check_base, is_mirrored
from mirrorsums.nearest import mirrored_to


def by_two(number, base):
    """All ways by two, by falling first ones: a new list of new lists."""
    check_base(base)
    # The lesser of two is at most half of the number; as it rises, the first one falls.
    return [
        [number - lesser, lesser]
        for lesser in mirrored_to(number // 2, base)
        if is_mirrored(number - lesser, base)
    ]


def many_by_two(number, base):
    """How many ways by two there are."""
    check_base(base)
    return len(by_two(number, base))


def first_by_two(number, base):
    """The way by two whose first one is greatest: a new list, None where there is none."""
    check_base(base)
    for lesser in mirrored_to(number // 2, base):
        if is_mirrored(number - lesser, base):
            return [number - lesser, lesser]
    return None
