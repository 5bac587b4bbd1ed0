"""Points 1, 3, 17, 18 and 19: table, how_many, hardest."""

import unittest

from mirrorsums.errors import NoBase
from mirrorsums.tables import hardest, how_many, table
from tests.plain import ALL_BASES, SEVERAL_BASES, Asking, odd_things, plain_needs, wrong_bases

LIMIT = 10 ** 4


class Tables(Asking):

    def told(self, needs, bound, base):
        """Whether all three tell what the list of needs to a bound says."""
        self.row(needs, table(bound, base))
        most = max(needs)
        for many in range(most + 2):
            self.whole(len([need for need in needs[1:] if need == many]), how_many(bound, base, many))
        self.row([number for number, need in enumerate(needs) if need == most], hardest(bound, base))

    def test_examples(self):
        self.row([0, 1, 1, 1, 1, 1, 1, 1, 1, 1, 2, 1, 2], table(12, 10))
        self.row([0, 1, 2, 1, 2, 1, 2, 1, 2, 1, 2, 3, 2], table(12, 2))
        self.whole(10, how_many(12, 10, 1))
        self.whole(2, how_many(12, 10, 2))
        self.whole(0, how_many(12, 10, 3))
        self.row([10, 12], hardest(12, 10))
        self.row([11], hardest(12, 2))
        self.row([21], hardest(22, 10))
        self.row([176], hardest(187, 2))
        self.row([176, 188], hardest(188, 2))

    def test_bound_nought(self):
        for base in ALL_BASES:
            self.row([0], table(0, base))
            self.row([0], hardest(0, base))
            for many in (0, 1, 2, 10 ** 40):
                self.whole(0, how_many(0, base, many))

    def test_bound_one(self):
        for base in ALL_BASES:
            self.row([0, 1], table(1, base))
            self.row([1], hardest(1, base))
            self.whole(0, how_many(1, base, 0))
            self.whole(1, how_many(1, base, 1))
            self.whole(0, how_many(1, base, 2))

    def test_nought_is_not_counted(self):
        # 0 needs none, but how many is told of the numbers from 1 on.
        for base in ALL_BASES:
            for bound in (0, 1, 2, 100, 1000):
                self.whole(0, how_many(bound, base, 0))

    def test_more_than_any_needs(self):
        for many in (5, 6, 12, 13, 100, 10 ** 40):
            for bound in (0, 10, 1000):
                self.whole(0, how_many(bound, 10, many))
                self.whole(0, how_many(bound, 2, many))

    def test_all_small_bounds(self):
        for base in SEVERAL_BASES:
            needs = plain_needs(260, base)
            for bound in range(261):
                self.told(needs[:bound + 1], bound, base)

    def test_every_base(self):
        for base in ALL_BASES:
            self.told(plain_needs(1500, base), 1500, base)

    def test_the_limit(self):
        for base in ALL_BASES:
            self.told(plain_needs(LIMIT, base), LIMIT, base)

    def test_somewhat_beyond(self):
        for base in (2, 10):
            self.told(plain_needs(LIMIT + 321, base), LIMIT + 321, base)

    def test_all_numbers_are_counted(self):
        for base in (2, 10, 36):
            self.assertEqual(LIMIT, sum(how_many(LIMIT, base, many) for many in range(6)))

    def test_what_is_no_base_is_refused(self):
        for name, base in wrong_bases():
            for bound in (0, 1, 12, LIMIT):
                with self.subTest(base=name, bound=bound):
                    self.refused(NoBase, table, bound, base)
                    self.refused(NoBase, hardest, bound, base)
                    for many in (0, 2, 13):
                        self.refused(NoBase, how_many, bound, base, many)

    def test_no_base_comes_ahead_of_all_else(self):
        for name, thing in odd_things() + [("-1", -1)]:
            for base in (1, 37, None, True, [10]):
                with self.subTest(thing=name):
                    self.refused(NoBase, table, thing, base)
                    self.refused(NoBase, hardest, thing, base)
                    self.refused(NoBase, how_many, thing, base, 1)
                    self.refused(NoBase, how_many, 12, base, thing)

    def test_each_list_is_the_askers_own(self):
        for call in (table, hardest):
            for bound in (0, 1, 12, 300):
                first = call(bound, 10)
                second = call(bound, 10)
                kept = list(first)
                self.assertIsNot(first, second)
                first.append(3)
                first[0] = 8
                self.row(kept, second)
                self.row(kept, call(bound, 10))


if __name__ == "__main__":
    unittest.main()
