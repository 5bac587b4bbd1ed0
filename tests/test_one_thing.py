"""Point 2: mirrored numbers, ways by two, the fewest, all ways and tables tell one thing."""

import unittest

from mirrorsums.few import a_few
from mirrorsums.fewest import fewest
from mirrorsums.figures import is_mirrored
from mirrorsums.nearest import many_to, mirrored_at, place_of
from mirrorsums.tables import hardest, how_many, table
from mirrorsums.two import by_two, first_by_two, many_by_two
from mirrorsums.ways import all_ways, many_ways, way_at, way_place
from tests.plain import ALL_BASES, SEVERAL_BASES, Asking

GREAT = (10 ** 6, 10 ** 6 - 1, 10 ** 6 - 20, 999988, 654321, 524288, 271828, 100001, 65537)


class OneThing(Asking):

    def test_a_way_by_one_is_a_mirrored_number(self):
        for base in ALL_BASES:
            for number in list(range(1, 80)) + [333, 499, 500]:
                mirrored = is_mirrored(number, base)
                self.whole(1 if mirrored else 0, many_ways(number, base, 1))
                self.assertEqual(mirrored, fewest(number, base) == [number])
                self.assertEqual(mirrored, a_few(number, base) == [number])
                if mirrored:
                    self.row([number], way_at(number, base, 1, 0))
                    self.whole(0, way_place(number, base, [number]))

    def test_ways_by_two_are_the_ways_by_so_many(self):
        for base in SEVERAL_BASES:
            for number in list(range(90)) + [199, 202, 333, 404, 499, 500]:
                ways = [way_at(number, base, 2, place) for place in range(many_ways(number, base, 2))]
                self.rows(ways, by_two(number, base))
                self.whole(len(ways), many_by_two(number, base))
                self.assertEqual(ways[0] if ways else None, first_by_two(number, base))
                for place, way in enumerate(by_two(number, base)):
                    self.whole(place, way_place(number, base, way))

    def test_the_fewest_is_the_first_way_by_as_many(self):
        for base in ALL_BASES:
            for number in list(range(60)) + [176, 188, 310, 444, 499, 500]:
                way = fewest(number, base)
                self.row(way_at(number, base, len(way), 0), way)
                self.whole(0, way_place(number, base, way))
                for many in range(len(way)):
                    self.whole(0, many_ways(number, base, many))

    def test_the_tables_tell_how_many_the_fewest_has(self):
        for base in ALL_BASES:
            bound = 1200
            needs = [len(fewest(number, base)) for number in range(bound + 1)]
            self.row(needs, table(bound, base))
            for many in range(6):
                self.whole(needs[1:].count(many), how_many(bound, base, many))
            for number in hardest(bound, base):
                self.assertEqual(max(needs), len(fewest(number, base)))

    def test_the_table_to_its_limit(self):
        for base in (2, 10, 36):
            needs = table(10 ** 4, base)
            for number in list(range(0, 10 ** 4, 61)) + [10 ** 4 - 1, 10 ** 4]:
                self.whole(len(fewest(number, base)), needs[number])

    def test_as_many_need_one_as_are_mirrored(self):
        for base in ALL_BASES:
            for bound in (0, 1, 2, 36, 37, 500, 4000):
                self.whole(many_to(bound, base), how_many(bound, base, 1))

    def test_two_are_the_fewest_of_what_has_a_way_by_two(self):
        for base in ALL_BASES:
            for number in GREAT:
                way = fewest(number, base)
                pair = first_by_two(number, base)
                if is_mirrored(number, base):
                    self.row([number], way)
                elif pair is not None:
                    self.row(pair, way)
                else:
                    self.assertGreater(len(way), 2)
                self.assertLessEqual(len(way), len(a_few(number, base)))

    def test_every_part_has_its_place_among_the_mirrored(self):
        for base in ALL_BASES:
            for number in GREAT:
                for way in [fewest(number, base)] + by_two(number, base)[:5]:
                    for part in way:
                        self.assertIs(is_mirrored(part, base), True)
                        self.whole(part, mirrored_at(place_of(part, base), base))

    def test_what_was_told_is_a_way(self):
        for base in ALL_BASES:
            for number in (1, 12, 21, 177, 500):
                for way in [fewest(number, base), a_few(number, base)] + by_two(number, base)[:3]:
                    self.row(way, way_at(number, base, len(way), way_place(number, base, way)))

    def test_all_ways_are_those_by_each_so_many(self):
        for base in SEVERAL_BASES:
            for number in (0, 1, 2, 11, 12, 13, 40):
                self.whole(sum(many_ways(number, base, many) for many in range(number + 1)), all_ways(number, base))


if __name__ == "__main__":
    unittest.main()
