"""Points 1, 3, 9 and 10: by_two, many_by_two, first_by_two."""

import unittest

from mirrorsums.errors import NoBase
from mirrorsums.two import by_two, first_by_two, many_by_two
from tests.plain import (
    ALL_BASES, SEVERAL_BASES, Asking, mirrored_folded, mirrored_through, odd_things, plain_mirrored, wrong_bases,
)

LIMIT = 10 ** 6


def plain_two(number, base):
    """All pairs of mirrored numbers above 0, the greater ahead, that come to a number."""
    return [
        [first, number - first]
        for first in range(number, 0, -1)
        if first >= number - first > 0 and plain_mirrored(first, base) and plain_mirrored(number - first, base)
    ]


class ByTwo(Asking):

    def told(self, wanted, number, base):
        self.rows(wanted, by_two(number, base))
        self.whole(len(wanted), many_by_two(number, base))
        if wanted:
            self.row(wanted[0], first_by_two(number, base))
        else:
            self.assertIsNone(first_by_two(number, base))

    def test_examples(self):
        self.told([[1, 1]], 2, 10)
        self.told([[9, 1], [8, 2], [7, 3], [6, 4], [5, 5]], 10, 10)
        self.told([[9, 2], [8, 3], [7, 4], [6, 5]], 11, 10)
        self.told([[11, 1], [9, 3], [8, 4], [7, 5], [6, 6]], 12, 10)
        self.told([[11, 9]], 20, 10)
        self.told([], 21, 10)
        self.told([[99, 1]], 100, 10)
        self.told([[191, 11], [101, 101]], 202, 10)
        self.told([[999999, 1], [988889, 11111]], 10 ** 6, 10)
        self.told([[3, 1]], 4, 2)
        self.told([[5, 1], [3, 3]], 6, 2)
        self.told([[35, 1]] + [[number, 36 - number] for number in range(34, 17, -1)], 36, 36)

    def test_nought_and_one_have_none(self):
        for base in ALL_BASES:
            self.told([], 0, base)
            self.told([], 1, base)
            self.told([[1, 1]], 2, base)

    def test_nought_is_no_part(self):
        # These are mirrored themselves, but 0 is not above 0.
        self.told([], 111, 10)
        self.told([[999, 2], [979, 22]], 1001, 10)
        self.told([], 3, 2)
        self.told([], 5, 2)
        self.told([[2, 2]], 4, 3)

    def test_both_alike_stand_once(self):
        for base in ALL_BASES:
            for mirrored in mirrored_through(400, base)[1:]:
                told = by_two(2 * mirrored, base)
                self.assertEqual([mirrored, mirrored], told[-1])
                self.assertEqual(1, told.count([mirrored, mirrored]))

    def test_small_numbers(self):
        for base in SEVERAL_BASES:
            for number in range(300):
                self.told(plain_two(number, base), number, base)
        for base in ALL_BASES:
            for number in (37, 74, 100, 255, 256, 257, 513, 700):
                self.told(plain_two(number, base), number, base)

    def test_longer_numbers(self):
        for base in (2, 3, 10, 36):
            for number in (4095, 4097, 10001, 10010, 12345):
                self.told(plain_two(number, base), number, base)

    def test_great_numbers(self):
        for base in ALL_BASES:
            known = {mirrored: True for mirrored in mirrored_folded(LIMIT, base)}
            for number in (LIMIT, LIMIT - 1, LIMIT - 2, LIMIT - 23, 987654, 2 ** 19, 2 ** 19 + 2, 3 ** 12 + 1, 500002):
                wanted = [
                    [first, number - first]
                    for first in sorted(known, reverse=True)
                    if number - first in known and number - first <= first
                ]
                self.told(wanted, number, base)

    def test_somewhat_beyond(self):
        beyond = [1000001, 999999, 998899, 987789, 900009, 800008, 700007, 600006, 500005]
        self.told([[first, LIMIT + 10 - first] for first in beyond], LIMIT + 10, 10)
        self.told([], 2 ** 20 + 1, 2)

    def test_what_is_no_base_is_refused(self):
        for name, base in wrong_bases():
            for call in (by_two, many_by_two, first_by_two):
                for number in (0, 1, 12, LIMIT):
                    with self.subTest(call=call.__name__, base=name):
                        self.refused(NoBase, call, number, base)

    def test_no_base_comes_ahead_of_all_else(self):
        for name, thing in odd_things() + [("-1", -1)]:
            for call in (by_two, many_by_two, first_by_two):
                for base in (1, 37, None, True, [10]):
                    with self.subTest(call=call.__name__, number=name):
                        self.refused(NoBase, call, thing, base)

    def test_each_list_is_the_askers_own(self):
        for number in (0, 10, 12, 21, 202, LIMIT):
            kept = [list(way) for way in by_two(number, 10)]
            first = by_two(number, 10)
            second = by_two(number, 10)
            self.assertIsNot(first, second)
            for way in first:
                way.append(7)
                way[0] = 8
            first.append([1])
            self.rows(kept, second)
            self.rows(kept, by_two(number, 10))
            self.assertEqual(len(kept), len({id(way) for way in second}))

    def test_the_first_is_the_askers_own(self):
        for number in (2, 10, 12, 202, LIMIT):
            first = first_by_two(number, 10)
            second = first_by_two(number, 10)
            kept = list(first)
            first[0] = 8
            first.append(7)
            self.row(kept, second)
            self.row(kept, first_by_two(number, 10))
            self.row(kept, by_two(number, 10)[0])


if __name__ == "__main__":
    unittest.main()
