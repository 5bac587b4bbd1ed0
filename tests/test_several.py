"""Points 1, 3 and 20 to 22: in_all, next_in_all."""

import unittest
from functools import lru_cache

from mirrorsums.errors import NoBase
from mirrorsums.several import in_all, next_in_all
from tests.plain import (
    ALL_BASES, SEVERAL_BASES, Asking, mirrored_folded, mirrored_through, odd_things, plain_mirrored,
    wrong_lists_of_bases,
)

LIMIT = 10 ** 5
BY_TWO_AND_TEN = [
    0, 1, 3, 5, 7, 9, 33, 99, 313, 585, 717, 7447, 9009, 15351, 32223, 39993, 53235, 53835, 73737,
]
CHOICES = [[base] for base in SEVERAL_BASES] + [
    [2, 3], [2, 10], [3, 9], [9, 10], [10, 16], [2, 36], [35, 36], [4, 16],
    [2, 4, 8], [3, 10, 27], [8, 10, 16], [34, 35, 36], [5, 6, 7],
    [2, 3, 4, 5], [7, 8, 9, 10], [2, 12, 22, 32], [33, 34, 35, 36],
    [2, 3, 4, 5, 6], [2, 4, 8, 16, 32], [6, 10, 14, 22, 30], [10, 11, 12, 13, 14], [32, 33, 34, 35, 36],
]


@lru_cache(None)
def known_to(bound, base):
    return frozenset(mirrored_through(bound, base))


def plain_in_all(bound, bases):
    """All numbers from 0 to a bound that are mirrored in each base, by going through them."""
    return [number for number in range(bound + 1) if all(plain_mirrored(number, base) for base in bases)]


def plain_next(told, number, bound):
    """The first of what was told that is above a number and at most a bound."""
    for mirrored in told:
        if number < mirrored <= bound:
            return mirrored
    return None


class InAll(Asking):

    def test_examples(self):
        self.row([0, 1, 2, 3, 4, 5, 6, 7, 8, 9, 11], in_all(20, [10]))
        self.row([0, 1, 3, 5, 7, 9, 15, 17], in_all(20, [2]))
        self.row(BY_TWO_AND_TEN, in_all(LIMIT, [2, 10]))
        self.row([0, 1, 6643], in_all(LIMIT, [2, 3]))
        self.row([0, 1], in_all(5, [2, 3, 4]))

    def test_bound_nought(self):
        for bases in CHOICES:
            self.row([0], in_all(0, bases))
            self.row([0, 1], in_all(1, bases))

    def test_the_bound_itself_is_one(self):
        for at, number in enumerate(BY_TWO_AND_TEN[1:], 1):
            self.row(BY_TWO_AND_TEN[:at], in_all(number - 1, [2, 10]))
            self.row(BY_TWO_AND_TEN[:at + 1], in_all(number, [2, 10]))
            self.row(BY_TWO_AND_TEN[:at + 1], in_all(number + 1, [2, 10]))

    def test_small_bounds(self):
        for bases in CHOICES:
            told = plain_in_all(260, bases)
            for bound in range(261):
                self.row([number for number in told if number <= bound], in_all(bound, bases))

    def test_every_base(self):
        for base in ALL_BASES:
            self.row(mirrored_through(2000, base), in_all(2000, [base]))
            self.row([0] + mirrored_folded(LIMIT, base), in_all(LIMIT, [base]))

    def test_longer_bounds(self):
        for bases in CHOICES:
            self.row(plain_in_all(3000, bases), in_all(3000, bases))

    def test_the_limit(self):
        going = (2, 3, 10, 16, 36)
        choices = [[first, second] for first in going for second in going if first < second]
        choices += [[base] for base in going] + [[2, 3, 10], [10, 16, 36], [2, 3, 16, 36], list(going)]
        for bases in choices:
            wanted = sorted(set.intersection(*[set(known_to(LIMIT, base)) for base in bases]))
            self.row(wanted, self.soon(in_all, LIMIT, bases))

    def test_the_limit_in_other_bases(self):
        for bases in CHOICES:
            wanted = {0}.union(set.intersection(*[set(mirrored_folded(LIMIT, base)) for base in bases]))
            self.row(sorted(wanted), self.soon(in_all, LIMIT, bases))

    def test_somewhat_beyond(self):
        wanted = set.intersection(*[set(mirrored_folded(10 ** 6, base)) for base in (2, 10)])
        self.row([0] + sorted(wanted), self.soon(in_all, 10 ** 6, [2, 10]))
        self.assertIn(585585, wanted)

    def test_each_list_is_the_askers_own(self):
        for bases in ([10], [2, 10], [2, 3, 4, 5, 6]):
            for bound in (0, 1, 100, LIMIT):
                first = in_all(bound, bases)
                second = in_all(bound, bases)
                kept = list(first)
                self.assertIsNot(first, second)
                self.assertIsNot(first, bases)
                first.append(3)
                first[0] = 8
                self.row(kept, second)
                self.row(kept, in_all(bound, bases))


class NextInAll(Asking):

    def told(self, wanted, number, bound, bases):
        told = next_in_all(number, bound, bases)
        if wanted is None:
            self.assertIsNone(told)
        else:
            self.whole(wanted, told)

    def test_examples(self):
        self.told(33, 9, 100, [2, 10])
        self.told(33, 10, 100, [2, 10])
        self.told(99, 33, 100, [2, 10])
        self.told(None, 99, 312, [2, 10])
        self.told(313, 99, 313, [2, 10])
        self.told(11, 9, 20, [10])
        self.told(1, 0, LIMIT, [2, 3, 4, 5, 6])
        self.told(6643, 1, LIMIT, [2, 3])
        self.told(None, 6643, LIMIT, [2, 3])

    def test_the_bound_itself(self):
        for at, number in enumerate(BY_TWO_AND_TEN[1:], 1):
            ahead = BY_TWO_AND_TEN[at - 1]
            self.told(None, ahead, number - 1, [2, 10])
            self.told(number, ahead, number, [2, 10])
            self.told(number, ahead, number + 1, [2, 10])
            self.told(number, number - 1, number, [2, 10])
            self.told(number, number - 1, LIMIT, [2, 10])

    def test_a_bound_below_or_at_the_number(self):
        for bases in CHOICES:
            for number in (0, 1, 2, 5, 11, 33, 100, 9009, LIMIT):
                self.told(None, number, number, bases)
                self.told(None, number, 0, bases)
                self.told(None, number, number // 2, bases)
                self.told(None, number + 1, number, bases)

    def test_the_number_itself_is_not_the_next(self):
        for bases in CHOICES:
            self.told(1, 0, 1, bases)
            self.told(None, 1, 1, bases)
            self.told(None, 0, 0, bases)

    def test_small_numbers(self):
        for bases in CHOICES:
            told = plain_in_all(140, bases)
            for number in range(0, 131, 3):
                for bound in list(range(0, 131, 7)) + [number - 1, number, number + 1, number + 2]:
                    self.told(plain_next(told, number, bound), number, bound, bases)

    def test_from_one_to_the_next(self):
        for bases in CHOICES:
            found = [0]
            while found[-1] is not None:
                found.append(next_in_all(found[-1], 3000, bases))
            self.row(plain_in_all(3000, bases), found[:-1])

    def test_to_the_limit(self):
        for bases in ([2], [10], [36], [2, 10], [3, 16], [2, 3, 10], [10, 16, 36], [2, 3, 10, 16, 36]):
            told = sorted(set.intersection(*[set(known_to(LIMIT, base)) for base in bases]))
            for number in [0, 1, 2, 50000, LIMIT - 2, LIMIT - 1, LIMIT] + told[-3:] + [told[-1] - 1]:
                for bound in [LIMIT, LIMIT - 1, told[-1], told[-1] - 1, 77777]:
                    wanted = plain_next(told, number, bound)
                    self.assertEqual(wanted, self.soon(next_in_all, number, bound, bases))

    def test_somewhat_beyond(self):
        self.told(585585, 73737, 10 ** 6, [2, 10])
        self.told(None, 73737, 585584, [2, 10])
        self.told(None, 10 ** 6, LIMIT, [2, 10])


class Bases(Asking):

    def test_what_is_no_list_of_bases_is_refused(self):
        for name, bases in wrong_lists_of_bases():
            with self.subTest(bases=name):
                self.refused(NoBase, in_all, 100, bases)
                self.refused(NoBase, in_all, 0, bases)
                self.refused(NoBase, next_in_all, 0, 100, bases)
                self.refused(NoBase, next_in_all, 0, 0, bases)
                self.refused(NoBase, next_in_all, 100, 0, bases)

    def test_no_base_comes_ahead_of_all_else(self):
        for name, thing in odd_things() + [("-1", -1), ("10 ** 40", 10 ** 40)]:
            for bases in ([], [1], [37], [3, 2], [2, 2], [2, 3, 4, 5, 6, 7], (2, 10), 10, None, [True], [[2]]):
                with self.subTest(thing=name):
                    self.refused(NoBase, in_all, thing, bases)
                    self.refused(NoBase, next_in_all, thing, 100, bases)
                    self.refused(NoBase, next_in_all, 0, thing, bases)
                    self.refused(NoBase, next_in_all, thing, thing, bases)

    def test_one_to_five_are_bases(self):
        for many in range(1, 6):
            for first in (2, 9, 37 - many):
                bases = list(range(first, first + many))
                self.row([0, 1], in_all(1, bases))
                self.whole(1, next_in_all(0, 1, bases))
        for many in (0, 6, 7):
            self.refused(NoBase, in_all, 1, list(range(2, 2 + many)))
            self.refused(NoBase, next_in_all, 0, 1, list(range(2, 2 + many)))

    def test_what_is_handed_in_stays_and_is_not_kept(self):
        bases = [2, 10]
        told = in_all(1000, bases)
        self.whole(313, next_in_all(99, 1000, bases))
        self.assertEqual([2, 10], bases)
        bases[0] = 9
        self.row(plain_in_all(1000, [9, 10]), in_all(1000, bases))
        self.row(plain_in_all(1000, [2, 10]), told)
        bases.append(10)
        self.refused(NoBase, in_all, 1000, bases)
        self.assertEqual([9, 10, 10], bases)
        bases.clear()
        self.refused(NoBase, next_in_all, 1, 1000, bases)
        self.assertEqual([], bases)
        inner = [2]
        wrong = [inner, 10]
        self.refused(NoBase, in_all, 1000, wrong)
        self.assertEqual([[2], 10], wrong)
        self.assertIs(inner, wrong[0])


if __name__ == "__main__":
    unittest.main()
