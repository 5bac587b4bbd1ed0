"""Points 1, 3 and 23 to 25: paper_of, is_paper."""

import unittest
from functools import lru_cache

from mirrorsums.errors import NoBase
from mirrorsums.papers import is_paper, paper_of
from tests.plain import (
    ALL_BASES, SEVERAL_BASES, Asking, deep, mirrored_folded, mirrored_through, odd_things, plain_figures,
    plain_mirrored, wrong_bases,
)

LIMIT = 10 ** 5
PAPER_OF_21 = [(mirrored, 0) for mirrored in range(10)]


def right_places(number, base):
    """All places at which a number has another figure than from behind."""
    row = plain_figures(number, base)
    turned = row[::-1]
    return [place for place in range(len(row)) if row[place] != turned[place]]


def choices_of(number, base, rising):
    """For 0 and each of these rising mirrored ones to half of a number: it, and all right places."""
    return [(mirrored, right_places(number - mirrored, base)) for mirrored in rising if 2 * mirrored <= number]


def plain_paper(number, base, rising):
    """The paper of first places, None where there is none, by all rising mirrored numbers from 0 on."""
    choices = choices_of(number, base, rising)
    if all(places for mirrored, places in choices):
        return [(mirrored, min(places)) for mirrored, places in choices]
    return None


@lru_cache(None)
def some_with_papers(base):
    """The first three numbers of a base that have a paper, and a longer one."""
    rising = mirrored_through(1200, base)
    found = [number for number in range(1, 1200) if plain_paper(number, base, rising) is not None]
    longer = [number for number in found if len(plain_figures(number, base)) > 2]
    return tuple(found[:3] + longer[-1:])


class Papers(Asking):
    """Checks of papers that tests share."""

    def paper(self, wanted, told):
        """The very list, of tuples of two ints that are no truths."""
        self.assertIs(type(told), list)
        self.assertEqual(wanted, told)
        for row in told:
            self.assertIs(type(row), tuple)
            self.assertEqual([int, int], [type(item) for item in row])

    def told(self, wanted, number, base):
        told = self.soon(paper_of, number, base)
        if wanted is None:
            self.assertIsNone(told)
        else:
            self.paper(wanted, told)
            self.assertIs(self.soon(is_paper, number, base, told), True)

    def no_paper(self, number, base, thing):
        self.assertIs(is_paper(number, base, thing), False)


class PaperOf(Papers):

    def test_examples(self):
        self.told(PAPER_OF_21, 21, 10)
        self.told([(0, 1), (1, 0), (3, 0), (5, 0)], 11, 2)
        self.told([(mirrored, 0) for mirrored in range(36)], 73, 36)
        self.told(None, 1, 10)
        self.told(None, 20, 10)
        self.told(None, 22, 10)
        self.told(None, 10, 10)

    def test_no_paper_of_the_least(self):
        for base in ALL_BASES:
            for number in range(base + 2):
                self.told(None, number, base)

    def test_a_mirrored_number_has_none(self):
        for base in ALL_BASES:
            for number in mirrored_folded(LIMIT, base)[::17] + [0, 1]:
                self.assertIsNone(paper_of(number, base))

    def test_the_half_is_the_last_row(self):
        seen = 0
        for base in ALL_BASES:
            rising = mirrored_through(1000, base)
            for half in rising[1:]:
                # Two alike come to this number.
                self.told(None, 2 * half, base)
                # Of the next one the half, rounded down, still belongs to the paper.
                wanted = plain_paper(2 * half + 1, base, rising)
                self.told(wanted, 2 * half + 1, base)
                if wanted is not None:
                    self.assertEqual(half, wanted[-1][0])
                    self.no_paper(2 * half + 1, base, wanted[:-1])
                    seen += 1
        self.assertGreater(seen, 100)

    def test_the_first_row_is_nought(self):
        for base in ALL_BASES:
            for number in some_with_papers(base):
                paper = paper_of(number, base)
                self.assertEqual((0, min(right_places(number, base))), paper[0])
                self.no_paper(number, base, paper[1:])

    def test_small_numbers(self):
        for base in SEVERAL_BASES:
            rising = mirrored_through(600, base)
            for number in range(1, 601):
                self.told(plain_paper(number, base, rising), number, base)

    def test_every_base(self):
        for base in ALL_BASES:
            rising = mirrored_through(1300, base)
            for number in list(range(1, 120)) + list(range(1190, 1301, 3)):
                self.told(plain_paper(number, base, rising), number, base)

    def test_longer_numbers(self):
        for base in (2, 3, 10, 16, 36):
            rising = mirrored_through(LIMIT // 2, base)
            for number in list(range(LIMIT - 40, LIMIT + 1)) + [12345, 54321, 65537, 99990]:
                self.told(plain_paper(number, base, rising), number, base)

    def test_the_limit_in_every_base(self):
        for base in ALL_BASES:
            rising = [0] + mirrored_folded(LIMIT, base)
            seen = 0
            for number in range(LIMIT, LIMIT - 100, -1):
                wanted = plain_paper(number, base, rising)
                self.told(wanted, number, base)
                seen += 1 if wanted is not None else 0
            self.assertGreater(seen, 0)

    def test_somewhat_beyond(self):
        for base in (2, 10, 36):
            rising = [0] + mirrored_folded(LIMIT + 400, base)
            for number in range(LIMIT + 300, LIMIT + 330):
                self.told(plain_paper(number, base, rising), number, base)

    def test_each_list_is_the_askers_own(self):
        for number, base in ((21, 10), (11, 2), (73, 36), (1099, 10)):
            first = paper_of(number, base)
            second = paper_of(number, base)
            kept = list(first)
            self.assertIsNot(first, second)
            first.append((1, 1))
            first[0] = (7, 7)
            self.paper(kept, second)
            self.paper(kept, paper_of(number, base))
            self.assertIs(is_paper(number, base, second), True)


class AnyRightPlace(Papers):

    def test_each_right_place_is_taken_and_no_other(self):
        for base in SEVERAL_BASES:
            for number in some_with_papers(base):
                paper = paper_of(number, base)
                choices = choices_of(number, base, mirrored_through(number // 2, base))
                for at, (mirrored, places) in enumerate(choices):
                    length = len(plain_figures(number - mirrored, base))
                    for place in range(-length - 2, length + 3):
                        thing = paper[:at] + [(mirrored, place)] + paper[at + 1:]
                        self.assertIs(is_paper(number, base, thing), place in places)

    def test_all_places_from_behind(self):
        for base in ALL_BASES:
            for number in some_with_papers(base):
                choices = choices_of(number, base, mirrored_through(number // 2, base))
                self.assertIs(is_paper(number, base, [(mirrored, max(places)) for mirrored, places in choices]), True)
                self.assertIs(is_paper(number, base, [(mirrored, min(places)) for mirrored, places in choices]), True)

    def test_the_middle_is_no_place(self):
        # Of three figures the middle one stands behind itself.
        paper = paper_of(201, 10)
        self.assertEqual((0, 0), paper[0])
        self.assertIs(is_paper(201, 10, [(0, 2)] + paper[1:]), True)
        self.no_paper(201, 10, [(0, 1)] + paper[1:])

    def test_at_the_limit(self):
        for base in (2, 10, 36):
            rising = mirrored_through(LIMIT // 2, base)
            number = LIMIT
            while plain_paper(number, base, rising) is None:
                number -= 1
            paper = [(mirrored, max(places)) for mirrored, places in choices_of(number, base, rising)]
            self.assertIs(self.soon(is_paper, number, base, paper), True)
            self.no_paper(number, base, paper[:-1])
            self.no_paper(number, base, paper[1:])
            self.no_paper(number, base, paper + [(number, 0)])
            middle = len(paper) // 2
            self.no_paper(number, base, paper[:middle] + paper[middle + 1:])
            self.no_paper(number, base, paper[:middle] + [paper[middle]] + paper[middle:])


class NoPaper(Papers):

    def test_rows_out_twice_and_exchanged(self):
        for base in SEVERAL_BASES:
            for number in some_with_papers(base):
                paper = paper_of(number, base)
                for at, row in enumerate(paper):
                    self.no_paper(number, base, paper[:at] + paper[at + 1:])
                    self.no_paper(number, base, paper[:at] + [row] + paper[at:])
                for at in range(len(paper) - 1):
                    self.no_paper(number, base, paper[:at] + [paper[at + 1], paper[at]] + paper[at + 2:])
                self.no_paper(number, base, paper[::-1])
                self.no_paper(number, base, paper + paper)
                self.no_paper(number, base, [paper])
                self.no_paper(number, base, [])

    def test_rows_too_many(self):
        for base in SEVERAL_BASES:
            rising = mirrored_through(3000, base)
            for number in some_with_papers(base):
                paper = paper_of(number, base)
                beyond = [mirrored for mirrored in rising if 2 * mirrored > number]
                for mirrored in beyond[:3] + [number, number + 1]:
                    for place in (0, 1):
                        self.no_paper(number, base, paper + [(mirrored, place)])
                self.no_paper(number, base, [(-1, 0)] + paper)

    def test_other_numbers_in_a_row(self):
        for base in SEVERAL_BASES:
            for number in some_with_papers(base):
                paper = paper_of(number, base)
                for at, (mirrored, place) in enumerate(paper):
                    for wrong in (mirrored + 1, mirrored - 1, -mirrored - 1, number - mirrored, 10 ** 40):
                        if wrong != mirrored:
                            self.no_paper(number, base, paper[:at] + [(wrong, place)] + paper[at + 1:])

    def test_truths_are_no_numbers(self):
        self.assertIs(is_paper(21, 10, [(0, 0), (1, 0)] + PAPER_OF_21[2:]), True)
        self.no_paper(21, 10, [(False, 0)] + PAPER_OF_21[1:])
        self.no_paper(21, 10, [(0, 0), (True, 0)] + PAPER_OF_21[2:])
        self.no_paper(21, 10, [(0, False)] + PAPER_OF_21[1:])
        self.assertIs(is_paper(21, 10, [(0, 1)] + PAPER_OF_21[1:]), True)
        self.no_paper(21, 10, [(0, True)] + PAPER_OF_21[1:])

    def test_rows_of_other_kinds(self):
        for at in (0, 1, 5, 9):
            mirrored, place = PAPER_OF_21[at]
            rows = [
                [mirrored, place], (mirrored,), (mirrored, place, place), (mirrored, place, None), (), [], [()],
                ((mirrored, place),), [(mirrored, place)], {mirrored: place}, {"mirrored": place}, mirrored, place,
                str(mirrored), f"{mirrored}0", None, True, False, b"00", "",
                (str(mirrored), place), (mirrored, str(place)), (None, place), (mirrored, None),
                ([mirrored], place), (mirrored, [place]), ((mirrored,), place), (mirrored, (place,)),
                (place + 100, mirrored + 100), ({}, {}), (mirrored, b"0"), (mirrored, 10 ** 40), (mirrored, -1),
                (mirrored, -2), (mirrored, 2), (mirrored, -(10 ** 40)),
            ]
            for row in rows:
                with self.subTest(at=at, row=row):
                    self.no_paper(21, 10, PAPER_OF_21[:at] + [row] + PAPER_OF_21[at + 1:])

    def test_odd_things_in_a_paper(self):
        for name, thing in odd_things():
            for at in (0, 3, 9):
                ahead, behind = PAPER_OF_21[:at], PAPER_OF_21[at + 1:]
                with self.subTest(thing=name, at=at):
                    self.no_paper(21, 10, ahead + [thing] + behind)
                    self.no_paper(21, 10, ahead + [(thing, 0)] + behind)
                    self.no_paper(21, 10, ahead + [(at, thing)] + behind)
                    self.no_paper(21, 10, ahead + [(thing, thing)] + behind)
            self.no_paper(21, 10, PAPER_OF_21 + [thing])
            self.no_paper(21, 10, [thing] + PAPER_OF_21)

    def test_of_anything(self):
        things = [
            tuple(PAPER_OF_21), dict(PAPER_OF_21), set(PAPER_OF_21), iter(PAPER_OF_21), str(PAPER_OF_21),
            {at: row for at, row in enumerate(PAPER_OF_21)}, [list(row) for row in PAPER_OF_21],
            [PAPER_OF_21], (PAPER_OF_21,), [tuple(PAPER_OF_21)], 0, 1, 21, -1,
        ]
        for name, thing in [(str(at), thing) for at, thing in enumerate(things)] + odd_things():
            for number in (21, 22, 20, 1, 2, LIMIT):
                for base in (2, 10, 36):
                    with self.subTest(thing=name, number=number, base=base):
                        self.no_paper(number, base, thing)

    def test_deep_things(self):
        for wrap in (
            lambda thing: [thing], lambda thing: (thing,), lambda thing: (0, thing), lambda thing: (thing, 0),
            lambda thing: [(0, thing)], lambda thing: [(0, 0), thing],
        ):
            thing = deep(20000, wrap)
            for number in (21, 22, 1):
                self.no_paper(number, 10, thing)
                self.no_paper(number, 10, [thing])
                self.no_paper(number, 10, [(0, 0), thing])
                self.no_paper(number, 10, PAPER_OF_21[:-1] + [thing])
                self.no_paper(number, 10, PAPER_OF_21[:-1] + [(9, thing)])
        own = []
        own.append(own)
        self.no_paper(21, 10, own)
        own[0] = (0, own)
        self.no_paper(21, 10, own)

    def test_of_another_number_or_base(self):
        for base in (2, 3, 10, 36):
            for number in some_with_papers(base):
                paper = paper_of(number, base)
                half = [mirrored for mirrored, place in paper]
                for other in (number - 2, number + 2, 2 * number, 1, 3, number + 999):
                    # Of a neighbour with the same rows it may be a paper, too, by chance.
                    if mirrored_through(other // 2, base) != half:
                        self.no_paper(other, base, paper)
        self.no_paper(21, 9, PAPER_OF_21)
        self.no_paper(21, 11, PAPER_OF_21)
        self.no_paper(21, 2, PAPER_OF_21)

    def test_where_there_is_none_nothing_is_one(self):
        for base in SEVERAL_BASES:
            rising = mirrored_through(300, base)
            for number in range(1, 300):
                if plain_paper(number, base, rising) is None:
                    self.assertIsNone(paper_of(number, base))
                    choices = choices_of(number, base, rising)
                    # As good as can be: all right but for the rows that cannot be.
                    for wrong in (-1, 0, 1, 2):
                        thing = [(mirrored, places[0] if places else wrong) for mirrored, places in choices]
                        self.no_paper(number, base, thing)
                    self.no_paper(number, base, [(mirrored, places[0]) for mirrored, places in choices if places])

    def test_of_nought(self):
        for base in ALL_BASES:
            for thing in ([], [(0, 0)], [(0, 1)], [(0, -1)], PAPER_OF_21, None):
                self.no_paper(0, base, thing)
            self.assertIsNone(paper_of(0, base))

    def test_of_what_is_no_number(self):
        for name, number in odd_things() + [("-1", -1), ("-21", -21), ("text 21", "21"), ("list of 21", [21])]:
            for thing in (PAPER_OF_21, [], [(0, 0)], None, number):
                with self.subTest(number=name):
                    self.no_paper(number, 10, thing)

    def test_a_great_number_is_not_gone_through(self):
        for thing in ([], PAPER_OF_21, None, [(0, 0)]):
            self.assertIs(self.soon(is_paper, 10 ** 40, 10, thing), False)


class Bases(Papers):

    def test_what_is_no_base_is_refused(self):
        for name, base in wrong_bases():
            with self.subTest(base=name):
                for number in (0, 1, 21, LIMIT):
                    self.refused(NoBase, paper_of, number, base)
                    self.refused(NoBase, is_paper, number, base, PAPER_OF_21)
                    self.refused(NoBase, is_paper, number, base, [])
                    self.refused(NoBase, is_paper, number, base, None)

    def test_no_base_comes_ahead_of_all_else(self):
        for name, thing in odd_things() + [("-1", -1)]:
            for base in (1, 37, None, True, [10]):
                with self.subTest(thing=name):
                    self.refused(NoBase, paper_of, thing, base)
                    self.refused(NoBase, is_paper, 21, base, thing)
                    self.refused(NoBase, is_paper, thing, base, PAPER_OF_21)
                    self.refused(NoBase, is_paper, thing, base, thing)
                    self.refused(NoBase, is_paper, 21, thing, thing)

    def test_what_is_handed_in_stays_and_is_not_kept(self):
        thing = list(PAPER_OF_21)
        self.assertIs(is_paper(21, 10, thing), True)
        self.assertEqual(PAPER_OF_21, thing)
        thing[3] = (3, 2)
        self.no_paper(21, 10, thing)
        self.assertEqual((3, 2), thing[3])
        thing[3] = (3, 1)
        self.assertIs(is_paper(21, 10, thing), True)
        thing.pop()
        self.no_paper(21, 10, thing)
        self.assertEqual(9, len(thing))
        inner = [0, 0]
        wrong = [inner] + PAPER_OF_21[1:]
        self.no_paper(21, 10, wrong)
        self.assertIs(inner, wrong[0])
        self.assertEqual([0, 0], inner)
        self.paper(PAPER_OF_21, paper_of(21, 10))

    def test_mirrored_or_by_two_in_one_base_alone(self):
        # 21 is mirrored in base 2 (10101), has a way by two in base 9 (20 and 1), and neither in base 10.
        self.assertTrue(plain_mirrored(21, 2))
        self.told(None, 21, 2)
        self.told(None, 21, 9)
        self.told(PAPER_OF_21, 21, 10)


if __name__ == "__main__":
    unittest.main()
