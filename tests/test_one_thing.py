"""Point 2: mirrored numbers, ways by two, the fewest, all ways, tables, bases and papers tell one thing."""

import unittest

from mirrorsums.few import a_few
from mirrorsums.fewest import fewest
from mirrorsums.figures import is_mirrored
from mirrorsums.nearest import at_least, at_most, many_to, mirrored_at, place_of
from mirrorsums.papers import is_paper, paper_of
from mirrorsums.several import in_all, next_in_all
from mirrorsums.tables import hardest, how_many, table
from mirrorsums.two import by_two, first_by_two, many_by_two
from mirrorsums.ways import all_ways, many_ways, way_at, way_place
from tests.plain import ALL_BASES, SEVERAL_BASES, Asking

GREAT = (10 ** 6, 10 ** 6 - 1, 10 ** 6 - 20, 999988, 654321, 524288, 271828, 100001, 65537)


class OneThing(Asking):

    def test_a_way_by_one_is_a_mirrored_number(self):
        for base in ALL_BASES:
            for number in list(range(1, 80)) + [333, 499, 500]:
                mirrored = is_mirrored(number, base)
                self.whole(1 if mirrored else 0, many_ways(number, base, 1))
                self.assertEqual(mirrored, fewest(number, base) == [number])
                self.assertEqual(mirrored, a_few(number, base) == [number])
                if mirrored:
                    self.row([number], way_at(number, base, 1, 0))
                    self.whole(0, way_place(number, base, [number]))

    def test_ways_by_two_are_the_ways_by_so_many(self):
        for base in SEVERAL_BASES:
            for number in list(range(90)) + [199, 202, 333, 404, 499, 500]:
                ways = [way_at(number, base, 2, place) for place in range(many_ways(number, base, 2))]
                self.rows(ways, by_two(number, base))
                self.whole(len(ways), many_by_two(number, base))
                self.assertEqual(ways[0] if ways else None, first_by_two(number, base))
                for place, way in enumerate(by_two(number, base)):
                    self.whole(place, way_place(number, base, way))

    def test_the_fewest_is_the_first_way_by_as_many(self):
        for base in ALL_BASES:
            for number in list(range(60)) + [176, 188, 310, 444, 499, 500]:
                way = fewest(number, base)
                self.row(way_at(number, base, len(way), 0), way)
                self.whole(0, way_place(number, base, way))
                for many in range(len(way)):
                    self.whole(0, many_ways(number, base, many))

    def test_the_tables_tell_how_many_the_fewest_has(self):
        for base in ALL_BASES:
            bound = 1200
            needs = [len(fewest(number, base)) for number in range(bound + 1)]
            self.row(needs, table(bound, base))
            for many in range(6):
                self.whole(needs[1:].count(many), how_many(bound, base, many))
            for number in hardest(bound, base):
                self.assertEqual(max(needs), len(fewest(number, base)))

    def test_the_table_to_its_limit(self):
        for base in (2, 10, 36):
            needs = table(10 ** 4, base)
            for number in list(range(0, 10 ** 4, 61)) + [10 ** 4 - 1, 10 ** 4]:
                self.whole(len(fewest(number, base)), needs[number])

    def test_as_many_need_one_as_are_mirrored(self):
        for base in ALL_BASES:
            for bound in (0, 1, 2, 36, 37, 500, 4000):
                self.whole(many_to(bound, base), how_many(bound, base, 1))

    def test_two_are_the_fewest_of_what_has_a_way_by_two(self):
        for base in ALL_BASES:
            for number in GREAT:
                way = fewest(number, base)
                pair = first_by_two(number, base)
                if is_mirrored(number, base):
                    self.row([number], way)
                elif pair is not None:
                    self.row(pair, way)
                else:
                    self.assertGreater(len(way), 2)
                self.assertLessEqual(len(way), len(a_few(number, base)))

    def test_every_part_has_its_place_among_the_mirrored(self):
        for base in ALL_BASES:
            for number in GREAT:
                for way in [fewest(number, base)] + by_two(number, base)[:5]:
                    for part in way:
                        self.assertIs(is_mirrored(part, base), True)
                        self.whole(part, mirrored_at(place_of(part, base), base))

    def test_what_was_told_is_a_way(self):
        for base in ALL_BASES:
            for number in (1, 12, 21, 177, 500):
                for way in [fewest(number, base), a_few(number, base)] + by_two(number, base)[:3]:
                    self.row(way, way_at(number, base, len(way), way_place(number, base, way)))

    def test_all_ways_are_those_by_each_so_many(self):
        for base in SEVERAL_BASES:
            for number in (0, 1, 2, 11, 12, 13, 40):
                self.whole(sum(many_ways(number, base, many) for many in range(number + 1)), all_ways(number, base))

    def test_mirrored_in_one_base_are_the_mirrored_numbers(self):
        for base in ALL_BASES:
            bound = 1500
            told = in_all(bound, [base])
            self.row([number for number in range(bound + 1) if is_mirrored(number, base)], told)
            self.row([mirrored_at(place, base) for place in range(many_to(bound, base) + 1)], told)
            for place, number in enumerate(told):
                self.whole(place, place_of(number, base))
                if place > 0:
                    self.whole(number, next_in_all(told[place - 1], bound, [base]))
            for number in range(0, bound, 7):
                self.whole(at_least(number + 1, base), next_in_all(number, 10 ** 5, [base]))
                self.whole(at_most(number, base), in_all(number, [base])[-1])

    def test_mirrored_in_one_base_to_the_limit(self):
        bound = 10 ** 5
        for base in ALL_BASES:
            told = in_all(bound, [base])
            self.whole(many_to(bound, base) + 1, len(told))
            self.whole(at_most(bound, base), told[-1])
            self.assertTrue(all(is_mirrored(number, base) for number in told))

    def test_mirrored_in_all_are_mirrored_in_each(self):
        for bases in ([2, 10], [3, 5, 7], [8, 9, 10, 11], [2, 3, 4, 5, 6], [9, 16, 25, 35, 36]):
            wanted = [number for number in range(3000) if all(is_mirrored(number, base) for base in bases)]
            self.row(wanted, in_all(2999, bases))
            for part in range(1, len(bases)):
                fewer = set(in_all(2999, bases[:part])) & set(in_all(2999, bases[part:]))
                self.row(sorted(fewer), in_all(2999, bases))

    def papered(self, number, base):
        """Whether there is a paper just where a number is not mirrored and has no way by two."""
        paper = paper_of(number, base)
        wanted = not is_mirrored(number, base) and first_by_two(number, base) is None
        self.assertEqual(wanted, paper is not None)
        self.assertEqual(wanted, len(fewest(number, base)) > 2)
        if wanted:
            self.whole(0, many_by_two(number, base))
            self.assertEqual(in_all(number // 2, [base]), [mirrored for mirrored, place in paper])
            self.assertIs(is_paper(number, base, paper), True)
        return wanted

    def test_a_paper_is_where_three_or_more_are_needed(self):
        for base in ALL_BASES:
            bound = 700
            papers = [number for number in range(1, bound + 1) if self.papered(number, base)]
            self.row([number for number, need in enumerate(table(bound, base)) if need > 2], papers)
            self.whole(len(papers), sum(how_many(bound, base, many) for many in range(3, 9)))

    def test_papers_to_the_limit(self):
        for base in ALL_BASES:
            found = [self.papered(number, base) for number in range(10 ** 5 - 60, 10 ** 5 + 1)]
            self.assertIn(True, found)
            self.assertIn(False, found)

    def test_no_paper_where_there_are_ways_by_one_or_two(self):
        for base in SEVERAL_BASES:
            for number in range(1, 200):
                ways = many_ways(number, base, 1) + many_ways(number, base, 2)
                self.assertEqual(ways == 0, paper_of(number, base) is not None)


if __name__ == "__main__":
    unittest.main()
