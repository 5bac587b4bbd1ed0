"""Points 1, 3, 11 and 12: fewest."""

import unittest

from mirrorsums.errors import NoBase
from mirrorsums.fewest import fewest
from tests.plain import (
    ALL_BASES, SEVERAL_BASES, Asking, falling_lists, mirrored_folded, mirrored_through, odd_things, plain_sums,
    plain_ways, wrong_bases,
)

LIMIT = 10 ** 6


def plain_fewest(number, base):
    """The greatest list of the fewest, by going through all lists of ever more."""
    many = 0
    while not plain_ways(number, base, many):
        many += 1
    return plain_ways(number, base, many)[0]


def comes_by(sums, number, many):
    return sums[many] >> number & 1 == 1


def plain_greatest(number, many, falling, sums):
    """The greatest list by so many of falling parts, with the sums that tell what comes by how many."""
    if many == 0:
        return [] if number == 0 else None
    for at, part in enumerate(falling):
        if part <= number and comes_by(sums, number - part, many - 1):
            others = plain_greatest(number - part, many - 1, falling[at:], sums)
            if others is not None:
                return [part] + others
    return None


def great_choice(sums):
    """Numbers to the limit: the last ones, some all over, and the last three of each so many."""
    chosen = set(range(LIMIT - 25, LIMIT + 1)) | set(range(1234, LIMIT, 24681))
    for many in range(1, 5):
        found = 0
        for number in range(LIMIT, LIMIT - 50000, -1):
            if found < 3 and comes_by(sums, number, many) and not any(comes_by(sums, number, k) for k in range(many)):
                chosen.add(number)
                found += 1
    return sorted(chosen)


class Fewest(Asking):

    def test_examples(self):
        self.row([], fewest(0, 10))
        self.row([1], fewest(1, 10))
        self.row([9, 1], fewest(10, 10))
        self.row([11], fewest(11, 10))
        self.row([11, 9], fewest(20, 10))
        self.row([11, 9, 1], fewest(21, 10))
        self.row([101, 9], fewest(110, 10))
        self.row([999999, 1], fewest(10 ** 6, 10))
        self.row([1, 1], fewest(2, 2))
        self.row([5, 1], fewest(6, 2))
        self.row([7, 1], fewest(8, 2))
        self.row([9, 1, 1], fewest(11, 2))
        self.row([73, 1], fewest(74, 2))
        self.row([35, 1], fewest(36, 36))

    def test_none_of_nought(self):
        for base in ALL_BASES:
            self.row([], fewest(0, base))
            self.row([1], fewest(1, base))

    def test_a_mirrored_number_needs_itself_alone(self):
        for base in ALL_BASES:
            for number in mirrored_through(1500, base)[1:]:
                self.row([number], fewest(number, base))
            for number in mirrored_folded(LIMIT, base)[-3:]:
                self.row([number], fewest(number, base))

    def test_small_numbers(self):
        for base in ALL_BASES:
            for number in range(64):
                self.row(plain_fewest(number, base), fewest(number, base))

    def test_longer_numbers(self):
        for base in (2, 3, 5, 10, 36):
            falling = mirrored_through(420, base)[:0:-1]
            for number in range(100, 420):
                wanted = []
                many = 0
                while not wanted:
                    many += 1
                    wanted = falling_lists([part for part in falling if part <= number], many, number)
                self.row(max(wanted), fewest(number, base))

    def test_four_are_needed_in_base_two(self):
        for number in (176, 188, 208, 242, 244, 310, 524, 999890, 999988):
            self.assertEqual(4, len(fewest(number, 2)))
        self.row([999471, 513, 3, 1], fewest(999988, 2))

    def test_great_numbers(self):
        for base in SEVERAL_BASES:
            sums = plain_sums(LIMIT, base, 4)
            falling = mirrored_folded(LIMIT, base)[::-1]
            for number in great_choice(sums):
                many = min(k for k in range(5) if comes_by(sums, number, k))
                self.row(plain_greatest(number, many, falling, sums), fewest(number, base))

    def test_the_limit_in_every_base(self):
        for base in ALL_BASES:
            falling = mirrored_folded(LIMIT, base)[::-1]
            known = {part: True for part in falling}
            for number in (LIMIT, LIMIT - 1, 7 ** 7 + 3):
                told = fewest(number, base)
                self.row(sorted(told, reverse=True), told)
                self.assertEqual(number, sum(told))
                self.assertTrue(all(part in known for part in told))
                pairs = [[part, number - part] for part in falling if number - part in known and 2 * part >= number]
                if number in known:
                    self.assertEqual([number], told)
                elif pairs:
                    self.assertEqual(pairs[0], told)
                else:
                    self.assertGreater(len(told), 2)

    def test_somewhat_beyond(self):
        self.row([1000001, 1], fewest(10 ** 6 + 2, 10))
        self.row([2 ** 20 - 1, 1], fewest(2 ** 20, 2))

    def test_what_is_no_base_is_refused(self):
        for name, base in wrong_bases():
            for number in (0, 1, 12, LIMIT):
                with self.subTest(base=name, number=number):
                    self.refused(NoBase, fewest, number, base)

    def test_no_base_comes_ahead_of_all_else(self):
        for name, thing in odd_things() + [("-1", -1)]:
            for base in (1, 37, None, True, [10]):
                with self.subTest(number=name):
                    self.refused(NoBase, fewest, thing, base)

    def test_each_list_is_the_askers_own(self):
        for number in (0, 1, 10, 21, 12345, LIMIT):
            first = fewest(number, 10)
            second = fewest(number, 10)
            kept = list(first)
            self.assertIsNot(first, second)
            first.append(3)
            first[0] = 8
            self.row(kept, second)
            self.row(kept, fewest(number, 10))


if __name__ == "__main__":
    unittest.main()
