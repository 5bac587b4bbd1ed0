"""All ways of a number by so many mirrored ones: how many there are, and their places.

They are reckoned by rows, not gone through: rows[many][number] is how many ways by so
many a number has, of the parts that are put in. The greatest part that is put in is
the first part of the greatest ways; when it is taken out again, the lesser ways are left.
"""

from mirrorsums.errors import NoPlace, NoWay
from mirrorsums.figures import check_base, is_mirrored, is_whole
from mirrorsums.nearest import mirrored_to


def totals(part, size, number, many):
    """What so many parts, this one the greatest of them, can come to within a number: a list."""
    # Every part is at least 1, also those that are to stand ahead of these.
    return list(range(part + size - 1, min(part * size, number - many + size) + 1))


def put_in(part, rows, number, many):
    """Count the ways with this part, too: it is greater than those put in before."""
    for size in range(1, many + 1):
        row = rows[size]
        shorter = rows[size - 1]
        for total in totals(part, size, number, many):
            row[total] += shorter[total - part]


def take_out(part, rows, number, many):
    """Count the ways with this part no longer: it is the greatest that is put in."""
    # The other way round than put_in: the shorter row still has to have the part.
    for size in reversed(range(1, many + 1)):
        row = rows[size]
        shorter = rows[size - 1]
        for total in totals(part, size, number, many):
            row[total] -= shorter[total - part]


def rows_of(parts, number, many):
    """The rows for a number and so many, with all these rising parts put in."""
    rows = [[0] * (number + 1) for size in range(many + 1)]
    rows[0][0] = 1
    for part in parts:
        put_in(part, rows, number, many)
    return rows


def many_with_first(part, rows, number, many):
    """How many ways by so many have this part first, the greatest that is put in."""
    if many == 0 or part > number:
        return 0
    return rows[many - 1][number - part]


def many_ways(number, base, many):
    """How many ways by so many there are."""
    check_base(base)
    rows = rows_of(mirrored_to(number, base), number, many)
    return rows[many][number]


def all_ways(number, base):
    """How many ways there are by any number of mirrored ones."""
    check_base(base)
    counts = [1] + [0] * number
    for part in mirrored_to(number, base):
        for total in range(part, number + 1):
            counts[total] += counts[total - part]
    return counts[number]


def way_at(number, base, many, place):
    """The way by so many at a place, the greatest at place 0: a new list."""
    check_base(base)
    if not is_whole(place) or place < 0:
        raise NoPlace("a place is a whole number from 0 on")
    parts = mirrored_to(number, base)
    rows = rows_of(parts, number, many)
    if place >= rows[many][number]:
        raise NoPlace("there are not so many ways")
    way = []
    left = number
    ahead = place
    for part in reversed(parts):
        here = many_with_first(part, rows, left, many - len(way))
        while ahead < here:
            way.append(part)
            left -= part
            here = many_with_first(part, rows, left, many - len(way))
        ahead -= here
        take_out(part, rows, left, many - len(way))
    return way


def is_way(number, base, thing):
    """Whether a thing is a way of a number."""
    if not isinstance(thing, list):
        return False
    left = number
    most = number
    for part in thing:
        # The bounds come first: a part that is far too great need not be written in figures.
        if not is_whole(part) or not 0 < part <= most or not is_mirrored(part, base):
            return False
        left -= part
        most = min(part, left)
    return left == 0


def way_place(number, base, thing):
    """The place of a way among those by as many, the other way round than way_at."""
    check_base(base)
    if not is_way(number, base, thing):
        raise NoWay("this is no way of the number")
    many = len(thing)
    parts = mirrored_to(number, base)
    rows = rows_of(parts, number, many)
    place = 0
    left = number
    for part in reversed(parts):
        while many > 0 and thing[len(thing) - many] == part:
            left -= part
            many -= 1
        place += many_with_first(part, rows, left, many)
        take_out(part, rows, left, many)
    return place
