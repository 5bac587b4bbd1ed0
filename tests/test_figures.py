"""Points 1, 3 and 4: figures, number_of, is_mirrored."""

import unittest

from mirrorsums.errors import NoBase, NoNumber
from mirrorsums.figures import figures, is_mirrored, number_of
from tests.plain import (
    ALL_BASES, GREATEST, SEVERAL_BASES, Asking, deep, great_numbers, odd_things, plain_figures, plain_mirrored,
    wrong_bases,
)


class Bases(Asking):

    def test_what_is_no_base_is_refused(self):
        for name, base in wrong_bases():
            with self.subTest(base=name):
                self.refused(NoBase, figures, 12, base)
                self.refused(NoBase, figures, 0, base)
                self.refused(NoBase, number_of, [1], base)
                self.refused(NoBase, is_mirrored, 1, base)

    def test_no_base_comes_ahead_of_all_else(self):
        for name, base in wrong_bases():
            with self.subTest(base=name):
                self.refused(NoBase, number_of, [], base)
                self.refused(NoBase, number_of, "12", base)
                self.refused(NoBase, number_of, [0, 1], base)
                self.refused(NoBase, is_mirrored, None, base)
                self.refused(NoBase, is_mirrored, -1, base)
        for name, thing in odd_things():
            with self.subTest(thing=name):
                self.refused(NoBase, number_of, thing, 1)
                self.refused(NoBase, number_of, thing, thing)
                self.refused(NoBase, is_mirrored, thing, 37)
                self.refused(NoBase, is_mirrored, thing, thing)

    def test_every_base_from_2_to_36_is_one(self):
        for base in ALL_BASES:
            with self.subTest(base=base):
                self.row([1, 0], figures(base, base))
                self.row([base - 1], figures(base - 1, base))
                self.whole(base, number_of([1, 0], base))
                self.assertIs(is_mirrored(base + 1, base), True)


class Figures(Asking):

    def test_examples(self):
        self.row([0], figures(0, 10))
        self.row([7], figures(7, 10))
        self.row([1, 2, 0], figures(120, 10))
        self.row([1, 0, 1, 1], figures(11, 2))
        self.row([35, 0, 1], figures(35 * 36 * 36 + 1, 36))
        self.row([1] + [0] * 40, figures(10 ** 40, 10))

    def test_small_numbers(self):
        for base in ALL_BASES:
            for number in range(0, 1500):
                self.row(plain_figures(number, base), figures(number, base))

    def test_great_numbers(self):
        for base in ALL_BASES:
            for number in great_numbers(base):
                told = figures(number, base)
                self.row(plain_figures(number, base), told)
                self.whole(number, number_of(told, base))

    def test_nought_is_one_figure_in_every_base(self):
        for base in ALL_BASES:
            self.row([0], figures(0, base))

    def test_each_list_is_the_askers_own(self):
        for number in (0, 5, 12321, GREATEST):
            first = figures(number, 10)
            kept = list(first)
            second = figures(number, 10)
            self.assertIsNot(first, second)
            first.append(3)
            first[0] = 8
            self.row(kept, second)
            self.row(kept, figures(number, 10))


class NumberOf(Asking):

    def test_examples(self):
        self.whole(0, number_of([0], 10))
        self.whole(120, number_of([1, 2, 0], 10))
        self.whole(5, number_of([1, 0, 1], 2))
        self.whole(1, number_of([1], 2))
        self.whole(35 * 36 + 35, number_of([35, 35], 36))
        self.whole(10 ** 40, number_of([1] + [0] * 40, 10))

    def test_nought_and_greatest_figure_alone(self):
        for base in ALL_BASES:
            self.whole(0, number_of([0], base))
            self.whole(base - 1, number_of([base - 1], base))
            self.whole(base ** 3 - 1, number_of([base - 1] * 3, base))

    def test_a_nought_ahead_is_refused(self):
        for base in SEVERAL_BASES:
            for thing in ([0, 0], [0, 1], [0, 1, 0], [0, 0, 1], [0] * 5):
                with self.subTest(base=base, thing=thing):
                    self.refused(NoNumber, number_of, thing, base)

    def test_a_figure_that_is_none_is_refused(self):
        for base in ALL_BASES:
            for wrong in (base, base + 1, 10 ** 40, -1, -base, True, False, None, "1", b"1", [1], (1,), {}, {1: 1}):
                for thing in ([wrong], [1, wrong], [wrong, 1], [1, wrong, 1], [1, 0, 1, wrong]):
                    with self.subTest(base=base, thing=thing):
                        self.refused(NoNumber, number_of, thing, base)

    def test_what_is_no_list_of_figures_is_refused(self):
        numbers = [("0", 0), ("1", 1), ("12", 12), ("-1", -1), ("text", "12"), ("two figures", (1, 2)), ("nought", (0,))]
        for name, thing in numbers + odd_things():
            for base in (2, 10, 36):
                with self.subTest(thing=name, base=base):
                    self.refused(NoNumber, number_of, thing, base)

    def test_deep_things_behind_figures_are_refused(self):
        for wrap in (lambda thing: [thing], lambda thing: (thing,)):
            thing = deep(20000, wrap)
            self.refused(NoNumber, number_of, [1, thing], 10)
            self.refused(NoNumber, number_of, [thing, 1], 10)
            self.refused(NoNumber, number_of, [1, 1, thing, 1], 10)

    def test_what_is_handed_in_stays(self):
        told = [1, 2, 1]
        self.whole(121, number_of(told, 10))
        self.assertEqual([1, 2, 1], told)
        inner = [2]
        wrong = [1, inner]
        self.refused(NoNumber, number_of, wrong, 10)
        self.assertEqual([1, [2]], wrong)
        self.assertIs(wrong[1], inner)
        base = [10]
        self.refused(NoBase, number_of, told, base)
        self.assertEqual([10], base)

    def test_a_list_that_is_changed_afterwards_is_read_anew(self):
        thing = [1, 2, 1]
        self.whole(121, number_of(thing, 10))
        thing[0] = 3
        self.whole(321, number_of(thing, 10))
        thing[1] = True
        self.refused(NoNumber, number_of, thing, 10)
        thing[1] = 0
        self.whole(301, number_of(thing, 10))


class IsMirrored(Asking):

    def test_examples(self):
        for number in (0, 1, 9, 11, 22, 101, 12321, 123321, 10 ** 39 + 1, 10 ** 40 - 1):
            self.assertIs(is_mirrored(number, 10), True)
        for number in (10, 12, 100, 110, 1001000, 123312, 10 ** 39, 10 ** 40):
            self.assertIs(is_mirrored(number, 10), False)
        self.assertIs(is_mirrored(5, 2), True)
        self.assertIs(is_mirrored(6, 2), False)
        self.assertIs(is_mirrored(37, 36), True)
        self.assertIs(is_mirrored(36, 36), False)

    def test_small_numbers(self):
        for base in ALL_BASES:
            for number in range(0, 1500):
                self.assertIs(is_mirrored(number, base), plain_mirrored(number, base))

    def test_great_numbers(self):
        for base in ALL_BASES:
            for number in great_numbers(base):
                self.assertIs(is_mirrored(number, base), plain_mirrored(number, base))

    def test_what_is_no_whole_number_from_0_on_is_not(self):
        below = [(str(number), number) for number in (-1, -2, -11, -101, -(10 ** 40) - 1)]
        texts = [("text of figures", "11"), ("list of figures", [1, 1]), ("figures from 0 on", [0])]
        for name, thing in below + texts + odd_things():
            for base in (2, 10, 36):
                with self.subTest(thing=name, base=base):
                    self.assertIs(is_mirrored(thing, base), False)

    def test_what_is_handed_in_stays(self):
        thing = [1, [2], 1]
        self.assertIs(is_mirrored(thing, 10), False)
        self.assertEqual([1, [2], 1], thing)


if __name__ == "__main__":
    unittest.main()
