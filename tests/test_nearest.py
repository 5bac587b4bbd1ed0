"""Points 1, 3, 5, 6 and 7: at_most, at_least, many_to, mirrored_at, place_of."""

import unittest

from mirrorsums.errors import NoBase, NoMirror
from mirrorsums.nearest import at_least, at_most, many_to, mirrored_at, place_of
from tests.plain import (
    ALL_BASES, GREATEST, SEVERAL_BASES, Asking, great_numbers, mirrored_through, odd_things, plain_many,
    plain_mirrored, wrong_bases,
)

SMALL = 2500


class Bases(Asking):

    def test_what_is_no_base_is_refused(self):
        for name, base in wrong_bases():
            for call in (at_most, at_least, many_to, mirrored_at, place_of):
                for number in (0, 1, 12, GREATEST):
                    with self.subTest(call=call.__name__, base=name):
                        self.refused(NoBase, call, number, base)

    def test_no_base_comes_ahead_of_no_mirror(self):
        for name, thing in odd_things() + [("10", 10), ("-1", -1)]:
            for base in (1, 37, 0, -10, True, None, "10", [10]):
                with self.subTest(thing=name):
                    self.refused(NoBase, place_of, thing, base)

    def test_what_is_handed_in_stays(self):
        base = [10]
        self.refused(NoBase, at_most, 12, base)
        self.assertEqual([10], base)
        thing = [1, [2], 1]
        self.refused(NoMirror, place_of, thing, 10)
        self.assertEqual([1, [2], 1], thing)


class SmallNumbers(Asking):
    """All against a plain going through."""

    def test_at_most_and_many_to(self):
        for base in ALL_BASES:
            all_mirrored = mirrored_through(SMALL, base)
            place = 0
            for number in range(SMALL):
                if all_mirrored[place + 1:] and all_mirrored[place + 1] <= number:
                    place += 1
                self.whole(all_mirrored[place], at_most(number, base))
                self.whole(place, many_to(number, base))

    def test_at_least(self):
        for base in ALL_BASES:
            all_mirrored = mirrored_through(SMALL, base)
            place = 0
            for number in range(all_mirrored[-1] + 1):
                if all_mirrored[place] < number:
                    place += 1
                self.whole(all_mirrored[place], at_least(number, base))

    def test_places(self):
        for base in ALL_BASES:
            for place, number in enumerate(mirrored_through(SMALL, base)):
                self.whole(number, mirrored_at(place, base))
                self.whole(place, place_of(number, base))

    def test_longer_numbers(self):
        for base in (2, 3, 10):
            all_mirrored = mirrored_through(20000, base)
            for place, number in enumerate(all_mirrored):
                self.whole(number, mirrored_at(place, base))
                self.whole(place, place_of(number, base))
                self.whole(number, at_most(number, base))
                self.whole(number, at_least(number, base))
                self.whole(place, many_to(number, base))
                if place > 0:
                    self.whole(all_mirrored[place - 1], at_most(number - 1, base))
                    self.whole(number, at_least(all_mirrored[place - 1] + 1, base))


class Nearest(Asking):

    def test_examples(self):
        self.whole(9, at_most(10, 10))
        self.whole(11, at_least(10, 10))
        self.whole(11, at_most(12, 10))
        self.whole(22, at_least(12, 10))
        self.whole(191, at_most(201, 10))
        self.whole(202, at_least(200, 10))
        self.whole(1991, at_most(2001, 10))
        self.whole(2002, at_least(1992, 10))
        self.whole(12321, at_most(12345, 10))
        self.whole(12421, at_least(12345, 10))
        self.whole(1, at_most(2, 2))
        self.whole(3, at_least(2, 2))
        self.whole(35, at_most(36, 36))
        self.whole(37, at_least(36, 36))

    def test_nought(self):
        for base in ALL_BASES:
            self.whole(0, at_most(0, base))
            self.whole(0, at_least(0, base))
            self.whole(1, at_most(1, base))
            self.whole(1, at_least(1, base))

    def test_ends_of_lengths(self):
        for base in ALL_BASES:
            length = 1
            while base ** length <= GREATEST:
                end = base ** length
                self.whole(end - 1, at_most(end - 1, base))
                self.whole(end - 1, at_least(end - 1, base))
                self.whole(end - 1, at_most(end, base))
                self.whole(end + 1, at_least(end, base))
                self.whole(end + 1, at_most(end + 1, base))
                self.whole(end + 1, at_least(end + 1, base))
                self.whole(end + 1, at_most(end + 2, base))
                length += 1

    def test_the_greatest_number(self):
        self.whole(10 ** 40 - 1, at_most(10 ** 40, 10))
        self.whole(10 ** 40 + 1, at_least(10 ** 40, 10))
        self.whole(10 ** 40 - 1, at_least(10 ** 40 - 1, 10))
        self.whole(int("9" * 19 + "88" + "9" * 19), at_most(10 ** 40 - 2, 10))

    def test_great_numbers(self):
        for base in SEVERAL_BASES:
            for number in great_numbers(base):
                many = plain_many(number, base)
                below = at_most(number, base)
                self.assertIs(type(below), int)
                self.assertTrue(plain_mirrored(below, base))
                self.assertLessEqual(below, number)
                self.assertEqual(many, plain_many(below, base))
                above = at_least(number, base)
                self.assertIs(type(above), int)
                self.assertTrue(plain_mirrored(above, base))
                self.assertGreaterEqual(above, number)
                self.assertEqual(many + (below != number), plain_many(above, base))


class HowMany(Asking):

    def test_examples(self):
        self.whole(0, many_to(0, 10))
        self.whole(1, many_to(1, 10))
        self.whole(9, many_to(9, 10))
        self.whole(9, many_to(10, 10))
        self.whole(10, many_to(11, 10))
        self.whole(18, many_to(100, 10))
        self.whole(19, many_to(101, 10))
        self.whole(108, many_to(1000, 10))
        self.whole(2 * (10 ** 20 - 1), many_to(10 ** 40, 10))
        self.whole(1, many_to(2, 2))
        self.whole(2, many_to(3, 2))

    def test_nought_is_not_counted(self):
        for base in ALL_BASES:
            self.whole(0, many_to(0, base))
            self.whole(1, many_to(1, base))

    def test_great_numbers(self):
        for base in SEVERAL_BASES:
            for number in great_numbers(base):
                self.whole(plain_many(number, base), many_to(number, base))


class Places(Asking):

    def test_examples(self):
        self.whole(0, mirrored_at(0, 10))
        self.whole(1, mirrored_at(1, 10))
        self.whole(9, mirrored_at(9, 10))
        self.whole(11, mirrored_at(10, 10))
        self.whole(99, mirrored_at(18, 10))
        self.whole(101, mirrored_at(19, 10))
        self.whole(3, mirrored_at(2, 2))
        self.whole(5, mirrored_at(3, 2))
        self.whole(37, mirrored_at(36, 36))
        self.whole(int("90000000000000000001" + "0000000000000000009"), mirrored_at(10 ** 20, 10))
        self.whole(0, place_of(0, 10))
        self.whole(10, place_of(11, 10))
        self.whole(10 ** 20, place_of(int("90000000000000000001" + "0000000000000000009"), 10))
        self.whole(2 * (10 ** 20 - 1), place_of(10 ** 40 - 1, 10))

    def test_first_places(self):
        for base in ALL_BASES:
            self.whole(0, mirrored_at(0, base))
            self.whole(0, place_of(0, base))
            for number in range(1, base):
                self.whole(number, mirrored_at(number, base))
                self.whole(number, place_of(number, base))
            self.whole(base + 1, mirrored_at(base, base))
            self.whole(base, place_of(base + 1, base))

    def test_ends_of_lengths(self):
        for base in ALL_BASES:
            for length in range(1, 12):
                # The greatest of a length has all lesser and as long ones ahead of it.
                place = base ** (length // 2) + base ** (length - length // 2) - 2
                self.whole(base ** length - 1, mirrored_at(place, base))
                self.whole(base ** length + 1, mirrored_at(place + 1, base))
                self.whole(place, place_of(base ** length - 1, base))
                self.whole(place + 1, place_of(base ** length + 1, base))

    def test_great_places(self):
        places = [10 ** 20, 10 ** 20 - 1, 10 ** 19, 10 ** 15 + 7, 3 ** 41, 2 ** 64, 2 ** 65 - 2, 2 ** 65 - 1, 123456789]
        for base in ALL_BASES:
            for place in places:
                number = mirrored_at(place, base)
                self.assertIs(type(number), int)
                self.assertTrue(plain_mirrored(number, base))
                self.assertEqual(place, plain_many(number, base))
                self.whole(place, place_of(number, base))

    def test_great_mirrored_numbers(self):
        for base in SEVERAL_BASES:
            for number in great_numbers(base):
                if plain_mirrored(number, base):
                    self.whole(plain_many(number, base), place_of(number, base))
                else:
                    self.refused(NoMirror, place_of, number, base)

    def test_numbers_that_are_not_mirrored_are_refused(self):
        for base in ALL_BASES:
            for number in range(300):
                if not plain_mirrored(number, base):
                    self.refused(NoMirror, place_of, number, base)

    def test_what_is_no_mirrored_number_is_refused(self):
        below = [(str(number), number) for number in (-1, -2, -11, -(10 ** 40) - 1)]
        texts = [("text of figures", "11"), ("list of figures", [1, 1]), ("list of nought", [0])]
        for name, thing in below + texts + odd_things():
            for base in (2, 10, 36):
                with self.subTest(thing=name, base=base):
                    self.refused(NoMirror, place_of, thing, base)


if __name__ == "__main__":
    unittest.main()
