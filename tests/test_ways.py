"""Points 1, 3, 9 and 13 to 16: many_ways, all_ways, way_at, way_place."""

import unittest

from mirrorsums.errors import NoBase, NoPlace, NoWay
from mirrorsums.ways import all_ways, many_ways, way_at, way_place
from tests.plain import (
    ALL_BASES, SEVERAL_BASES, Asking, mirrored_through, odd_things, plain_counter, plain_mirrored, plain_place,
    plain_ways, wrong_bases,
)

LIMIT = 500
# How many ways a number has by any whole numbers above 0, from 0 on.
PARTITIONS = [1, 1, 2, 3, 5, 7, 11, 15, 22, 30, 42, 56, 77, 101, 135, 176, 231, 297, 385, 490, 627]


def some_places(many):
    """Places from 0 to below so many: the ends and some between."""
    found = {0, 1, many - 1, many - 2} | {many * part // 7 for part in range(1, 7)}
    return sorted(place for place in found if 0 <= place < many)


class Bases(Asking):

    def test_what_is_no_base_is_refused(self):
        for name, base in wrong_bases():
            for number in (0, 1, 12, LIMIT):
                with self.subTest(base=name, number=number):
                    self.refused(NoBase, all_ways, number, base)
                    self.refused(NoBase, way_place, number, base, [1] * number)
                    for many in (0, 1, 2, 12):
                        self.refused(NoBase, many_ways, number, base, many)
                        self.refused(NoBase, way_at, number, base, many, 0)

    def test_no_base_comes_ahead_of_all_else(self):
        for name, thing in odd_things() + [("-1", -1), ("10 ** 40", 10 ** 40)]:
            for base in (1, 37, None, True, [10]):
                with self.subTest(thing=name):
                    self.refused(NoBase, all_ways, thing, base)
                    self.refused(NoBase, many_ways, thing, base, 2)
                    self.refused(NoBase, many_ways, 12, base, thing)
                    self.refused(NoBase, way_at, thing, base, 2, 0)
                    self.refused(NoBase, way_at, 12, base, thing, 0)
                    self.refused(NoBase, way_at, 12, base, 2, thing)
                    self.refused(NoBase, way_place, 12, base, thing)
                    self.refused(NoBase, way_place, thing, base, [11, 1])


class HowMany(Asking):

    def test_examples(self):
        self.whole(5, many_ways(10, 10, 2))
        self.whole(8, many_ways(10, 10, 3))
        self.whole(0, many_ways(21, 10, 2))
        self.whole(1, many_ways(11, 10, 1))
        self.whole(0, many_ways(12, 10, 1))
        self.whole(2, many_ways(6, 2, 2))
        self.whole(0, many_ways(7, 2, 2))
        self.whole(3, all_ways(5, 2))
        self.whole(41, all_ways(10, 10))

    def test_by_none(self):
        for base in ALL_BASES:
            self.whole(1, many_ways(0, base, 0))
            for number in (1, 2, 10, 37, LIMIT):
                self.whole(0, many_ways(number, base, 0))

    def test_by_one(self):
        for base in ALL_BASES:
            self.whole(0, many_ways(0, base, 1))
            for number in range(1, 120):
                self.whole(1 if plain_mirrored(number, base) else 0, many_ways(number, base, 1))

    def test_nought_by_some_has_none(self):
        for base in ALL_BASES:
            for many in range(1, 13):
                self.whole(0, many_ways(0, base, many))

    def test_by_more_than_the_number(self):
        for base in ALL_BASES:
            for number in range(12):
                self.whole(1, many_ways(number, base, number))
                for many in range(number + 1, 13):
                    self.whole(0, many_ways(number, base, many))

    def test_small_numbers(self):
        for base in SEVERAL_BASES:
            for number in range(33):
                for many in range(13):
                    self.whole(len(plain_ways(number, base, many)), many_ways(number, base, many))

    def test_all_of_small_numbers(self):
        for base in SEVERAL_BASES:
            self.whole(1, all_ways(0, base))
            self.whole(1, all_ways(1, base))
            for number in range(25):
                wanted = sum(len(plain_ways(number, base, many)) for many in range(number + 1))
                self.whole(wanted, all_ways(number, base))

    def test_numbers_below_the_base_are_all_mirrored(self):
        for base in range(21, 37):
            for number, wanted in enumerate(PARTITIONS):
                self.whole(wanted, all_ways(number, base))

    def test_to_the_limit(self):
        for base in SEVERAL_BASES:
            count = plain_counter(LIMIT, base)
            for number in (37, 255, LIMIT):
                for many in range(13):
                    self.whole(count(number, many, number), many_ways(number, base, many))

    def test_more_than_twelve_are_in_all(self):
        for base in (2, 3, 10, 36):
            for number in (13, 14, 20, 25, 60):
                by_twelve = sum(many_ways(number, base, many) for many in range(13))
                beyond = sum(many_ways(number, base, many) for many in range(13, number + 1))
                self.assertGreater(beyond, 0)
                self.whole(by_twelve + beyond, all_ways(number, base))

    def test_all_to_the_limit(self):
        for base in (2, 10, 36):
            count = plain_counter(LIMIT, base)
            for number in (99, 144, 200):
                self.whole(sum(count(number, many, number) for many in range(number + 1)), all_ways(number, base))
        for base in ALL_BASES:
            wanted = [1] + [0] * LIMIT
            for part in mirrored_through(LIMIT, base)[1:]:
                wanted = [
                    sum(wanted[number - part * times] for times in range(number // part + 1))
                    for number in range(LIMIT + 1)
                ]
            for number in (LIMIT, LIMIT - 1, 250, 37):
                self.whole(wanted[number], all_ways(number, base))

    def test_somewhat_beyond(self):
        count = plain_counter(530, 10)
        self.whole(count(530, 12, 530), many_ways(530, 10, 12))
        self.whole(count(530, 14, 530), many_ways(530, 10, 14))


class WayAt(Asking):

    def test_examples(self):
        self.row([], way_at(0, 10, 0, 0))
        self.row([11], way_at(11, 10, 1, 0))
        self.row([9, 1], way_at(10, 10, 2, 0))
        self.row([8, 2], way_at(10, 10, 2, 1))
        self.row([5, 5], way_at(10, 10, 2, 4))
        self.row([8, 1, 1], way_at(10, 10, 3, 0))
        self.row([4, 3, 3], way_at(10, 10, 3, 7))
        self.row([11, 9, 1], way_at(21, 10, 3, 0))
        self.row([1] * 12, way_at(12, 10, 12, 0))
        self.row([3, 3], way_at(6, 2, 2, 1))

    def test_all_places_of_small_numbers(self):
        for base in SEVERAL_BASES:
            for number in range(21):
                for many in range(13):
                    ways = plain_ways(number, base, many)
                    for place, way in enumerate(ways):
                        self.row(way, way_at(number, base, many, place))
                        self.whole(place, way_place(number, base, way))
                    self.refused(NoPlace, way_at, number, base, many, len(ways))

    def test_longer_numbers(self):
        for base in (2, 10, 36):
            for number, many in ((111, 2), (111, 3), (200, 2), (202, 3), (99, 4), (50, 5)):
                for place, way in enumerate(plain_ways(number, base, many)):
                    self.row(way, way_at(number, base, many, place))
                    self.whole(place, way_place(number, base, way))

    def test_to_the_limit(self):
        for base in SEVERAL_BASES:
            count = plain_counter(LIMIT, base)
            for number, many in ((LIMIT, 1), (LIMIT, 2), (LIMIT, 3), (LIMIT, 12), (499, 4), (313, 7), (450, 11)):
                ways = count(number, many, number)
                for place in some_places(ways):
                    way = way_at(number, base, many, place)
                    self.row(sorted(way, reverse=True), way)
                    self.assertEqual((number, many), (sum(way), len(way)))
                    self.assertTrue(all(part > 0 and plain_mirrored(part, base) for part in way))
                    self.assertEqual(place, plain_place(way, count))
                    self.whole(place, way_place(number, base, way))
                for place in (-1, ways, ways + 1):
                    self.refused(NoPlace, way_at, number, base, many, place)

    def test_ways_fall(self):
        for base in (2, 3, 10, 36):
            for number, many in ((60, 3), (45, 5), (30, 12)):
                ways = [way_at(number, base, many, place) for place in range(many_ways(number, base, many))]
                self.assertEqual(sorted(ways, reverse=True), ways)
                self.assertEqual(len(ways), len({tuple(way) for way in ways}))

    def test_somewhat_beyond(self):
        count = plain_counter(530, 10)
        for many in (12, 14):
            way = way_at(530, 10, many, 12345)
            self.assertEqual(12345, plain_place(way, count))
            self.whole(12345, way_place(530, 10, way))

    def test_what_is_no_place_is_refused(self):
        numbers = [(str(place), place) for place in (-1, -2, -(10 ** 40), 5, 6, 10 ** 40)]
        lists = [("list of a place", [0]), ("tuple of a place", (0,)), ("text of a place", "0")]
        for name, place in numbers + lists + odd_things():
            with self.subTest(place=name):
                self.refused(NoPlace, way_at, 10, 10, 2, place)

    def test_no_way_has_no_place(self):
        for number, base, many in ((21, 10, 2), (7, 2, 2), (0, 10, 1), (5, 10, 0), (5, 10, 6), (12, 10, 1)):
            for name, place in odd_things() + [("0", 0), ("1", 1), ("-1", -1)]:
                with self.subTest(number=number, many=many, place=name):
                    self.refused(NoPlace, way_at, number, base, many, place)

    def test_only_one_place(self):
        for number, base, many, way in ((0, 10, 0, []), (11, 10, 1, [11]), (12, 10, 12, [1] * 12), (4, 2, 2, [3, 1])):
            self.row(way, way_at(number, base, many, 0))
            for name, place in odd_things() + [("1", 1), ("-1", -1)]:
                with self.subTest(number=number, place=name):
                    self.refused(NoPlace, way_at, number, base, many, place)

    def test_each_list_is_the_askers_own(self):
        for number, many, place in ((0, 0, 0), (11, 1, 0), (10, 2, 3), (LIMIT, 12, 1234)):
            first = way_at(number, 10, many, place)
            second = way_at(number, 10, many, place)
            kept = list(first)
            self.assertIsNot(first, second)
            first.append(3)
            first[0] = 8
            self.row(kept, second)
            self.row(kept, way_at(number, 10, many, place))


class WayPlace(Asking):

    def test_examples(self):
        self.whole(0, way_place(0, 10, []))
        self.whole(0, way_place(11, 10, [11]))
        self.whole(0, way_place(10, 10, [9, 1]))
        self.whole(4, way_place(10, 10, [5, 5]))
        self.whole(7, way_place(10, 10, [4, 3, 3]))
        self.whole(0, way_place(12, 10, [1] * 12))

    def test_by_more_than_twelve(self):
        # The document limits by how many it is asked, not how many a way has.
        self.whole(0, way_place(13, 10, [1] * 13))
        self.whole(0, way_place(LIMIT, 10, [1] * LIMIT))
        for base in (2, 10, 36):
            for number, many in ((20, 13), (24, 14), (26, 20)):
                for place, way in enumerate(plain_ways(number, base, many)):
                    self.whole(place, way_place(number, base, way))
        count = plain_counter(LIMIT, 10)
        way = [9] * 11 + [7] * 20 + [2] * 100 + [1] * 61
        self.whole(plain_place(way, count), way_place(LIMIT, 10, way))

    def test_wrong_ways_of_ten(self):
        things = [
            [10], [9], [9, 2], [9, 1, 1], [8, 1], [1, 9], [5, 4, 2], [4, 5, 1], [9, 1, 0], [0, 9, 1], [10, 0], [0],
            [11, -1], [-10], [-5, -5], [20, -10], [9, True], [True] * 10, [9, 1, False], [False], [], [9, None, 1],
            ["9", "1"], [9, "1"], [9, b"1"], [[9, 1]], [9, [1]], [[9], [1]], [(9, 1)], [9, (1,)], [{}], [9, {1: 1}],
            (9, 1), (5, 5), (), "9 + 1", "91", "", b"9", {9: 1}, {9, 1}, range(1, 5), iter([9, 1]), 10, 0, 1, -1,
            None, True, False, [10 ** 40], [10 ** 40, 10 - 10 ** 40], [1] * 9, [1] * 11, [2] * 4, [1] * 10000,
        ]
        for at, thing in enumerate(things):
            with self.subTest(at=at):
                self.refused(NoWay, way_place, 10, 10, thing)

    def test_of_anything(self):
        for name, thing in odd_things():
            for number in (1, 2, 10, LIMIT):
                with self.subTest(thing=name, number=number):
                    self.refused(NoWay, way_place, number, 10, thing)
            if thing != []:
                with self.subTest(thing=name):
                    self.refused(NoWay, way_place, 0, 10, thing)

    def test_wrong_ways_of_nought(self):
        for thing in ([0], [0, 0], [False], [1], [1, -1], (), "", "0", {}, None, 0, False, [[]], [()]):
            self.refused(NoWay, way_place, 0, 10, thing)

    def test_truths_are_no_parts(self):
        self.refused(NoWay, way_place, 1, 10, [True])
        self.refused(NoWay, way_place, 2, 10, [1, True])
        self.refused(NoWay, way_place, 2, 10, [True, 1])
        self.whole(0, way_place(2, 10, [1, 1]))

    def test_parts_are_mirrored_in_the_base(self):
        self.whole(0, way_place(20, 10, [11, 9]))
        self.refused(NoWay, way_place, 20, 2, [11, 9])
        self.refused(NoWay, way_place, 20, 10, [17, 3])
        self.whole(0, way_place(20, 3, [16, 4]))
        self.whole(1, way_place(20, 3, [10, 10]))
        self.refused(NoWay, way_place, 20, 10, [16, 4])
        for base in ALL_BASES:
            for number in range(2, 150):
                for first in range(1, number):
                    pair = [first, number - first]
                    if pair[0] >= pair[1] and not all(plain_mirrored(part, base) for part in pair):
                        self.refused(NoWay, way_place, number, base, pair)

    def test_ways_of_another_number(self):
        for way in plain_ways(20, 10, 4):
            for number in (19, 21, 0, 1, 40, LIMIT):
                self.refused(NoWay, way_place, number, 10, way)

    def test_rising_ways(self):
        for way in plain_ways(24, 10, 4):
            turned = way[::-1]
            if turned != way:
                self.refused(NoWay, way_place, 24, 10, turned)

    def test_what_is_handed_in_stays_and_is_not_kept(self):
        way = [5, 3, 1, 1]
        place = way_place(10, 10, way)
        self.assertEqual([5, 3, 1, 1], way)
        way[0] = 4
        way[1] = 4
        self.assertNotEqual(place, way_place(10, 10, way))
        self.assertEqual([4, 4, 1, 1], way)
        self.whole(place, way_place(10, 10, [5, 3, 1, 1]))
        inner = [1]
        wrong = [9, inner]
        self.refused(NoWay, way_place, 10, 10, wrong)
        self.assertEqual([9, [1]], wrong)
        self.assertIs(inner, wrong[1])
        place_given = [0]
        self.refused(NoPlace, way_at, 10, 10, 2, place_given)
        self.assertEqual([0], place_given)


if __name__ == "__main__":
    unittest.main()
