"""Numbers that are mirrored in several bases at once."""

from mirrorsums.errors import NoBase
from mirrorsums.figures import check_base
from mirrorsums.nearest import at_least

MOST_BASES = 5


def check_bases(thing):
    """Refuse what is no list of one to five unlike bases, rising."""
    if not isinstance(thing, list) or not 1 <= len(thing) <= MOST_BASES:
        raise NoBase("bases are a list of one to five")
    ahead = 0
    for base in thing:
        check_base(base)
        if base <= ahead:
            raise NoBase("bases are unlike and rise")
        ahead = base


def next_in_all(number, bound, bases):
    """The least number above a number, within a bound, that is mirrored in all bases; None where there is none."""
    check_bases(bases)
    tried = number + 1
    while tried <= bound:
        # One of the bases has no mirrored number from the tried one up to this, so none there is in all.
        following = max([at_least(tried, base) for base in bases])
        if following == tried:
            return tried
        tried = following
    return None


def in_all(bound, bases):
    """All numbers from 0 to a bound that are mirrored in all bases: a new list, rising."""
    check_bases(bases)
    told = []
    # 0 itself is one of them, so what comes above -1 is asked first.
    following = next_in_all(-1, bound, bases)
    while following is not None:
        told.append(following)
        following = next_in_all(following, bound, bases)
    return told
