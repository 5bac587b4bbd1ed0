"""How many mirrored ones each number to a bound needs."""

from mirrorsums.figures import check_base
from mirrorsums.nearest import mirrored_to


def needs(number, many, parts, told):
    """Whether a part leaves what needs one less than so many."""
    for part in parts:
        if part > number:
            return False
        if told[number - part] == many - 1:
            return True
    return False


def table(bound, base):
    """The fewest of each number from 0 to a bound: a new list."""
    check_base(base)
    parts = mirrored_to(bound, base)
    told = [0] + [None] * bound
    for part in parts:
        told[part] = 1
    many = 1
    left = [number for number in range(bound + 1) if told[number] is None]
    # Round by round: a number that is left needs more than was tried.
    while len(left) > 0:
        many += 1
        for number in left:
            if needs(number, many, parts, told):
                told[number] = many
        left = [number for number in left if told[number] is None]
    return told


def how_many(bound, base, many):
    """How many numbers from 1 to a bound need just so many."""
    check_base(base)
    return table(bound, base)[1:].count(many)


def hardest(bound, base):
    """The numbers to a bound that need the most: a new list, rising."""
    check_base(base)
    told = table(bound, base)
    most = max(told)
    return [number for number in range(bound + 1) if told[number] == most]
