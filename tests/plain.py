"""Plain ways to the same answers, things that are refused, and checks that tests share."""

import time
import unittest
from functools import lru_cache

from mirrorsums import errors

REFUSALS = (
    errors.NoBase, errors.NoNumber, errors.NoMirror, errors.NoPlace,
    errors.NoWay, errors.NoText, errors.NoCommand,
)

SEVERAL_BASES = (2, 3, 4, 7, 8, 10, 12, 16, 27, 35, 36)
ALL_BASES = range(2, 37)
GREATEST = 10 ** 40
# A single answer within the limits takes a small part of this, one that goes astray far more.
MOST_SECONDS = 10


def value(row, base):
    return sum(figure * base ** place for place, figure in enumerate(reversed(row)))


def plain_figures(number, base):
    row = [number % base]
    while number >= base:
        number //= base
        row.insert(0, number % base)
    return row


def plain_mirrored(number, base):
    row = plain_figures(number, base)
    return row == list(reversed(row))


def mirrored_through(bound, base):
    """All mirrored numbers from 0 to a bound, by going through them."""
    return [number for number in range(bound + 1) if plain_mirrored(number, base)]


def folded(front, base, odd):
    row = plain_figures(front, base)
    return value(row + list(reversed(row[:-1] if odd else row)), base)


def many_folded(number, base, odd):
    """How many numbers from 1 on, folded, are at most a number: by halving."""
    # A number of half as many figures, and one more, is too great when it is folded.
    low, high = 0, base ** (len(plain_figures(number, base)) // 2 + 1)
    while high - low > 1:
        middle = (low + high) // 2
        if folded(middle, base, odd) <= number:
            low = middle
        else:
            high = middle
    return low


def plain_many(number, base):
    """How many mirrored numbers there are from 1 to a number, great ones too."""
    return many_folded(number, base, True) + many_folded(number, base, False)


def mirrored_folded(bound, base):
    """All mirrored numbers from 1 to a bound, rising, for bounds that are too great to go through."""
    return sorted(
        folded(front, base, odd) for odd in (True, False) for front in range(1, many_folded(bound, base, odd) + 1)
    )


def falling_lists(parts, many, number):
    """All lists of so many of these falling parts, none greater than the one ahead, that come to a number."""
    if many == 0:
        return [[]] if number == 0 else []
    return [
        [part] + others
        for at, part in enumerate(parts) if part <= number
        for others in falling_lists(parts[at:], many - 1, number - part)
    ]


def plain_ways(number, base, many):
    """All ways by so many, the greatest list first, by going through the lists."""
    return sorted(falling_lists(mirrored_through(number, base)[:0:-1], many, number), reverse=True)


def plain_counter(bound, base):
    """A function that counts ways of numbers to a bound by so many, all parts at most a greatest one."""
    rising = mirrored_through(bound, base)[1:]

    @lru_cache(None)
    def count(number, many, at):
        if many == 0 or at == 0:
            return 1 if number == many == 0 else 0
        part = rising[at - 1]
        return count(number, many, at - 1) + (count(number - part, many - 1, at) if part <= number else 0)

    return lambda number, many, most: count(number, many, len([part for part in rising if part <= most]))


def plain_place(way, count):
    """How many ways by as many are greater lists, with a function that counts ways."""
    place = 0
    most = left = sum(way)
    for at, part in enumerate(way):
        # As long as the parts ahead are the same, a greater one here makes a greater list.
        place += count(left, len(way) - at, most) - count(left, len(way) - at, part)
        most = part
        left -= part
    return place


def plain_needs(bound, base):
    """How many mirrored ones each number from 0 to a bound needs, one number behind the other."""
    rising = mirrored_through(bound, base)[1:]
    needs = [0]
    usable = 0
    for number in range(1, bound + 1):
        while usable < len(rising) and rising[usable] <= number:
            usable += 1
        needs.append(1 + min([needs[number - part] for part in rising[:usable]]))
    return needs


def plain_sums(bound, base, greatest):
    """For each so many from 0 to the greatest, a number whose bits tell what comes by just so many."""
    parts = mirrored_folded(bound, base)
    sums = [1]
    for _ in range(greatest):
        bits = 0
        for part in parts:
            bits |= sums[-1] << part
        sums.append(bits & ((1 << (bound + 1)) - 1))
    return sums


def great_numbers(base):
    """Numbers to 10 ** 40: ends of lengths, beside mirrored ones, and others."""
    found = {GREATEST - 1, GREATEST, 3 ** 83, 7 ** 47, 98765432109876543210, 10 ** 20, 12 ** 21 + 5}
    length = 1
    while base ** length <= GREATEST:
        if length % 7 < 2 or base ** (length + 2) > GREATEST:
            found.update(base ** length + step for step in (-2, -1, 0, 1, 2))
            # A middle figure that is the greatest, or 0, makes one more or one less carry.
            for front in (base ** length - 2, base ** length, 2 * base ** length - 1):
                for odd in (True, False):
                    found.update(folded(front, base, odd) + step for step in (-1, 0, 1))
        length += 1
    return sorted(number for number in found if 0 <= number <= GREATEST)


def deep(depth, wrap):
    thing = wrap(None)
    for _ in range(depth):
        thing = wrap(thing)
    return thing


def deep_things():
    return [
        ("deep list", deep(20000, lambda thing: [thing])),
        ("deep tuple", deep(20000, lambda thing: (thing,))),
        ("deep list and tuple", deep(10000, lambda thing: [(thing, 1)])),
        ("list with a deep one", [1, deep(20000, lambda thing: [thing]), 1]),
        ("tuple with a deep one", (10, deep(20000, lambda thing: (thing,)))),
    ]


def odd_things():
    """Things, with a name each, that are neither numbers nor lists of figures."""
    return [
        ("None", None), ("True", True), ("False", False),
        ("empty text", ""), ("text", "10"), ("one sign", "1"), ("bytes", b"1"),
        ("empty list", []), ("list of a text", ["1"]), ("list of None", [None]), ("list of a list", [[1]]),
        ("empty tuple", ()), ("tuple", (1,)), ("tuple of two", (1, 1)),
        ("empty dict", {}), ("dict", {1: 1}), ("set", {1}), ("range", range(1, 3)),
        ("function", plain_figures), ("class", int), ("object", object()),
    ] + deep_things()


def wrong_bases():
    numbers = [1, 0, 37, 38, -1, -2, -10, 100, 10 ** 40, -(10 ** 40)]
    return [(str(number), number) for number in numbers] + odd_things() + [("list of a base", [10])]


def wrong_lists_of_bases():
    """Things, with a name each, that are no list of one to five unlike bases, rising."""
    falling_or_alike = [
        [3, 2], [10, 2], [36, 2], [2, 10, 9], [2, 3, 4, 6, 5], [5, 4, 3, 2], [3, 2, 4],
        [2, 2], [10, 10], [36, 36], [2, 3, 3], [2, 2, 3], [2, 3, 4, 5, 5], [10] * 5,
    ]
    too_many = [[2, 3, 4, 5, 6, 7], [2, 3, 5, 7, 11, 13], [10] * 6, list(ALL_BASES), [2] * 10000]
    tuples = [(10,), (2, 10), (2, 3, 4, 5, 6), ((2, 10),)]
    others = [2, 10, 36, 1, 37, "2 10", "10", b"\x02\x0a", {2: 10}, {2, 10}, range(2, 5), iter([2, 10])]
    within = [
        thing for name, wrong in wrong_bases()
        for thing in ([wrong], [2, wrong], [wrong, 36], [2, wrong, 36], [2, 3, 4, 5, wrong])
    ]
    lists = falling_or_alike + too_many + tuples + others + within
    return [(f"wrong list {at}", thing) for at, thing in enumerate(lists)] + odd_things()


class Asking(unittest.TestCase):
    """Checks of what is told and what is refused."""

    def soon(self, call, *given):
        """What a call tells, in reasonable time."""
        start = time.process_time()
        told = call(*given)
        self.assertLess(time.process_time() - start, MOST_SECONDS)
        return told

    def refused(self, refusal, call, *given):
        with self.assertRaises(ValueError) as caught:
            call(*given)
        error = caught.exception
        self.assertIsInstance(error, errors.MirrorError)
        self.assertIsInstance(error, refusal)
        for other in REFUSALS:
            if other is not refusal:
                self.assertNotIsInstance(error, other)

    def whole(self, wanted, told):
        """The very number, and an int that is no truth."""
        self.assertIs(type(told), int)
        self.assertEqual(wanted, told)

    def row(self, wanted, told):
        """The very list, of ints that are no truths."""
        self.assertIs(type(told), list)
        self.assertEqual(wanted, told)
        self.assertEqual({int}, {type(item) for item in told} | {int})

    def rows(self, wanted, told):
        """The very list of lists, of ints that are no truths."""
        self.assertIs(type(told), list)
        self.assertEqual(len(wanted), len(told))
        for wanted_row, told_row in zip(wanted, told):
            self.row(wanted_row, told_row)
