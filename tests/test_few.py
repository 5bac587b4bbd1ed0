"""Points 1, 3 and 8: a_few."""

import unittest

from mirrorsums.errors import NoBase
from mirrorsums.few import a_few
from tests.plain import (
    ALL_BASES, GREATEST, SEVERAL_BASES, Asking, great_numbers, mirrored_through, plain_many, plain_mirrored,
    wrong_bases,
)


class AFew(Asking):

    def test_examples(self):
        self.row([], a_few(0, 10))
        self.row([1], a_few(1, 10))
        self.row([9, 1], a_few(10, 10))
        self.row([11], a_few(11, 10))
        self.row([11, 1], a_few(12, 10))
        self.row([99, 1], a_few(100, 10))
        self.row([191, 9, 1], a_few(201, 10))
        self.row([12321, 22, 2], a_few(12345, 10))
        self.row([1, 1], a_few(2, 2))
        self.row([5, 1], a_few(6, 2))
        self.row([9, 1], a_few(10, 2))
        self.row([35, 1], a_few(36, 36))
        self.row([10 ** 40 - 1, 1], a_few(10 ** 40, 10))

    def test_none_of_nought(self):
        for base in ALL_BASES:
            self.row([], a_few(0, base))

    def test_small_numbers(self):
        for base in ALL_BASES:
            all_mirrored = mirrored_through(1200, base)
            for number in range(1200):
                wanted = []
                left = number
                for mirrored in reversed(all_mirrored[1:]):
                    # The greatest may be taken more than once.
                    while mirrored <= left:
                        wanted.append(mirrored)
                        left -= mirrored
                self.row(wanted, a_few(number, base))

    def test_great_numbers(self):
        for base in SEVERAL_BASES:
            for number in great_numbers(base)[::3] + [GREATEST]:
                left = number
                for mirrored in a_few(number, base):
                    self.assertIs(type(mirrored), int)
                    self.assertTrue(plain_mirrored(mirrored, base))
                    self.assertGreater(mirrored, 0)
                    self.assertLessEqual(mirrored, left)
                    self.assertEqual(plain_many(left, base), plain_many(mirrored, base))
                    left -= mirrored
                self.assertEqual(0, left)

    def test_what_is_no_base_is_refused(self):
        for name, base in wrong_bases():
            for number in (0, 1, 12, GREATEST):
                with self.subTest(base=name, number=number):
                    self.refused(NoBase, a_few, number, base)

    def test_each_list_is_the_askers_own(self):
        for number in (0, 1, 10, 12345, GREATEST):
            first = a_few(number, 10)
            kept = list(first)
            second = a_few(number, 10)
            self.assertIsNot(first, second)
            first.append(3)
            first[0] = 8
            self.row(kept, second)
            self.row(kept, a_few(number, 10))


if __name__ == "__main__":
    unittest.main()
