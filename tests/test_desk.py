"""Points 1, 2 and 27: the desk."""

import unittest

from mirrorsums.desk import Desk
from mirrorsums.errors import MirrorError, NoBase, NoCommand, NoMirror, NoPlace
from mirrorsums.few import a_few
from mirrorsums.fewest import fewest
from mirrorsums.figures import figures, is_mirrored
from mirrorsums.nearest import at_least, at_most, many_to, mirrored_at, place_of
from mirrorsums.notes import show_way
from mirrorsums.two import many_by_two
from mirrorsums.ways import many_ways, way_at
from tests.plain import (
    ALL_BASES, GREATEST, SEVERAL_BASES, Asking, great_numbers, mirrored_through, odd_things, plain_figures,
    plain_mirrored, plain_ways,
)

BOUNDS = {
    "base": [10 ** 40], "figures": [10 ** 40], "is": [10 ** 40], "below": [10 ** 40], "above": [10 ** 40],
    "count": [10 ** 40], "at": [10 ** 20], "place": [10 ** 40], "few": [10 ** 40], "two": [10 ** 6],
    "fewest": [10 ** 6], "ways": [500, 12], "way": [500, 12, 10 ** 40],
}
# A row of each kind that is answered in base 10, with its answer there.
EXAMPLES = {
    "figures 120": "1 2 0", "is 121": "yes", "is 120": "no", "below 201": "191", "above 200": "202", "count 100": "18",
    "at 10": "11", "place 11": "10", "few 201": "191 + 9 + 1", "two 202": "2", "fewest 302": "191 + 111",
    "ways 10 3": "8", "way 10 3 7": "4 + 3 + 3",
}


def rows_around(word, numbers):
    """Rows of a word with these numbers, each place in turn with other than a plain number."""
    for at, number in enumerate(numbers):
        for wrong in (
            f"0{number}", f"00{number}", f"+{number}", f"-{number}", f"{number}.", f"{number}.0", f"{number},", "",
            f"{number}\n", f"\n{number}", f"{number}\t", f"{number}_0", f"{number}a", f"a{number}", "a", "ten", "N", "x",
            f"0x{number}", f"{number}e0", f"({number})", f"[{number}]", f"'{number}'", "-0", "+0", "00", "~", "None",
            f"{number}\u0661", "\u0661", "\u00b2", "\uff11", f"{number}" + "0" * 60, "9" * 42, "1" * 3000, "1" * 9000,
            "0" * 41, "0" * 3000,
        ):
            yield " ".join([word] + [str(other) for other in numbers[:at]] + [wrong]
                           + [str(other) for other in numbers[at + 1:]])


class Saying(Asking):
    """Checks of the desk that tests share."""

    def said(self, wanted, desk, words):
        told = self.soon(desk.say, words)
        self.assertIs(type(told), str)
        self.assertEqual(wanted, told)

    def base_is(self, base, desk):
        """Whether a desk still has a base, by what it says."""
        self.said("1 0", desk, f"figures {base}")
        self.said(str(base - 1), desk, f"figures {base - 1}")

    def in_base(self, base):
        desk = Desk()
        self.said("ok", desk, f"base {base}")
        return desk


class Rows(Saying):

    def test_examples(self):
        desk = Desk()
        for words, answer in EXAMPLES.items():
            with self.subTest(words=words):
                self.said(answer, Desk(), words)
                self.said(answer, desk, words)

    def test_edges_of_nought(self):
        desk = Desk()
        for words, answer in {
            "figures 0": "0", "is 0": "yes", "below 0": "0", "above 0": "0", "count 0": "0", "at 0": "0",
            "place 0": "0", "few 0": "0", "two 0": "0", "fewest 0": "0", "ways 0 0": "1", "ways 0 1": "0",
            "ways 1 0": "0", "way 0 0 0": "0",
        }.items():
            for base in ALL_BASES:
                self.said("ok", desk, f"base {base}")
                self.said(answer, desk, words)

    def test_other_bases(self):
        for base, words, answer in (
            (36, "figures 1295", "35 35"), (36, "figures 46655", "35 35 35"), (16, "figures 255", "15 15"),
            (11, "figures 120", "10 10"), (2, "figures 5", "1 0 1"), (36, "is 37", "yes"), (36, "is 36", "no"),
            (36, "below 1295", "1295"), (2, "above 4", "5"), (2, "at 3", "5"), (2, "place 5", "3"),
            (2, "few 6", "5 + 1"), (2, "two 6", "2"), (2, "fewest 11", "9 + 1 + 1"), (2, "ways 6 2", "2"),
            (2, "way 6 2 1", "3 + 3"), (36, "few 36", "35 + 1"),
        ):
            self.said(answer, self.in_base(base), words)

    def test_against_plain_figures(self):
        for base in SEVERAL_BASES:
            desk = self.in_base(base)
            rising = mirrored_through(900, base)
            for number in range(0, 400):
                self.said(" ".join(str(figure) for figure in plain_figures(number, base)), desk, f"figures {number}")
                self.said("yes" if plain_mirrored(number, base) else "no", desk, f"is {number}")
                self.said(str(max(item for item in rising if item <= number)), desk, f"below {number}")
                self.said(str(min(item for item in rising if item >= number)), desk, f"above {number}")
                self.said(str(len([item for item in rising if 0 < item <= number])), desk, f"count {number}")
                if number < len(rising):
                    self.said(str(rising[number]), desk, f"at {number}")
                    self.said(str(number), desk, f"place {rising[number]}")

    def test_against_plain_ways(self):
        for base in (2, 3, 10, 36):
            desk = self.in_base(base)
            for number in range(19):
                for many in range(13):
                    ways = plain_ways(number, base, many)
                    self.said(str(len(ways)), desk, f"ways {number} {many}")
                    if many == 2:
                        self.said(str(len(ways)), desk, f"two {number}")
                    for place, way in enumerate(ways):
                        text = " + ".join(str(part) for part in way) or "0"
                        self.said(text, desk, f"way {number} {many} {place}")
                    self.refused(NoPlace, desk.say, f"way {number} {many} {len(ways)}")

    def test_as_the_functions_tell_of_great_numbers(self):
        for base in ALL_BASES:
            desk = self.in_base(base)
            for number in great_numbers(base)[::5] + [GREATEST]:
                self.said(" ".join(str(figure) for figure in figures(number, base)), desk, f"figures {number}")
                self.said("yes" if is_mirrored(number, base) else "no", desk, f"is {number}")
                self.said(str(at_most(number, base)), desk, f"below {number}")
                self.said(str(at_least(number, base)), desk, f"above {number}")
                self.said(str(many_to(number, base)), desk, f"count {number}")
                self.said(show_way(a_few(number, base)), desk, f"few {number}")
                if is_mirrored(number, base):
                    self.said(str(place_of(number, base)), desk, f"place {number}")
                else:
                    self.refused(NoMirror, desk.say, f"place {number}")
            for place in (10 ** 20, 10 ** 20 - 1, 2 ** 64, 12345678901234567890):
                self.said(str(mirrored_at(place, base)), desk, f"at {place}")

    def test_as_the_functions_tell_of_ways(self):
        for base in ALL_BASES:
            desk = self.in_base(base)
            for number in (10, 21, 202, 999, 999988, 10 ** 6 - 1, 10 ** 6):
                self.said(str(many_by_two(number, base)), desk, f"two {number}")
                self.said(show_way(fewest(number, base)), desk, f"fewest {number}")
            for number in (12, 21, 202, 499, 500):
                for many in (0, 1, 2, 5, 12):
                    ways = many_ways(number, base, many)
                    self.said(str(ways), desk, f"ways {number} {many}")
                    for place in sorted({0, ways // 2, ways - 1}):
                        if 0 <= place < ways:
                            way = show_way(way_at(number, base, many, place))
                            self.said(way, desk, f"way {number} {many} {place}")
                    self.refused(NoPlace, desk.say, f"way {number} {many} {ways}")


class Base(Saying):

    def test_at_first_ten(self):
        desk = Desk()
        self.base_is(10, desk)
        self.base_is(10, Desk())

    def test_every_base(self):
        desk = Desk()
        for base in list(ALL_BASES) + [10, 36, 2, 2]:
            self.said("ok", desk, f"base {base}")
            self.base_is(base, desk)

    def test_kept_from_row_to_row(self):
        desk = Desk()
        self.said("ok", desk, "base 7")
        for words in EXAMPLES:
            if not words.startswith(("place", "way ")):
                desk.say(words)
            self.base_is(7, desk)

    def test_what_is_no_base(self):
        for first in (2, 10, 36):
            desk = self.in_base(first)
            for number in (0, 1, 37, 38, 100, 10 ** 20, 10 ** 40):
                self.refused(NoBase, desk.say, f"base {number}")
                self.base_is(first, desk)
            for words in ("base 10 ** 2", "base 02", "base 0x2", f"base {10 ** 40 + 1}", "base -2", "base a", "base"):
                self.refused(NoCommand, desk.say, words)
                self.base_is(first, desk)

    def test_two_desks_apart(self):
        first, second = Desk(), Desk()
        self.said("ok", first, "base 2")
        self.base_is(10, second)
        self.said("ok", second, "base 36")
        self.base_is(2, first)
        self.base_is(36, second)
        self.base_is(10, Desk())
        self.refused(NoBase, first.say, "base 37")
        self.said("1 0 1", first, "figures 5")
        self.said("5", second, "figures 5")
        self.base_is(2, first)
        self.base_is(36, second)

    def test_the_base_of_a_row_is_by_figures_of_ten(self):
        desk = self.in_base(16)
        self.said("ok", desk, "base 10")
        self.base_is(10, desk)
        desk = self.in_base(2)
        self.said("ok", desk, "base 16")
        self.base_is(16, desk)
        self.said("1 15", desk, "figures 31")


class Bounds(Saying):

    def test_each_bound_and_one_beyond(self):
        for word, bounds in BOUNDS.items():
            for at, bound in enumerate(bounds):
                for base in (2, 10, 36):
                    desk = self.in_base(base)
                    for beyond in (bound + 1, bound + 2, 2 * bound, 10 * bound, 10 ** 41, 10 ** 100):
                        numbers = [0] * at + [beyond] + [0] * (len(bounds) - at - 1)
                        if beyond > bound:
                            words = " ".join([word] + [str(number) for number in numbers])
                            self.refused(NoCommand, desk.say, words)
                            self.base_is(base, desk)

    def test_all_bounds_at_once(self):
        for base in ALL_BASES:
            desk = self.in_base(base)
            for word, bounds in BOUNDS.items():
                words = " ".join([word] + [str(bound) for bound in bounds])
                if word == "base":
                    self.refused(NoBase, desk.say, words)
                elif word == "place" and not is_mirrored(10 ** 40, base):
                    self.refused(NoMirror, desk.say, words)
                elif word == "way":
                    self.refused(NoPlace, desk.say, words)
                else:
                    self.assertIs(type(self.soon(desk.say, words)), str)
                self.base_is(base, desk)

    def test_answers_at_the_bounds(self):
        desk = Desk()
        for words, answer in {
            f"figures {10 ** 40}": "1" + " 0" * 40, f"is {10 ** 40}": "no", f"is {10 ** 40 - 1}": "yes",
            f"below {10 ** 40}": "9" * 40, f"above {10 ** 40}": str(10 ** 40 + 1),
            f"count {10 ** 40}": str(2 * (10 ** 20 - 1)), f"few {10 ** 40}": "9" * 40 + " + 1",
            f"at {10 ** 20}": str(mirrored_at(10 ** 20, 10)), "two 1000000": "2", "fewest 1000000": "999999 + 1",
            "ways 500 0": "0", "ways 12 12": "1", "way 12 12 0": " + ".join(["1"] * 12),
        }.items():
            self.said(answer, desk, words)

    def test_beyond_comes_ahead_of_other_refusals(self):
        desk = Desk()
        for words in (
            f"base {10 ** 40 + 1}", f"place {10 ** 40 + 1}", f"place {10 ** 41}", f"way 10 2 {10 ** 40 + 1}",
            "way 501 2 9999", "way 10 13 9999", "way 501 13 0", "ways 501 13", "ways 501 2", "ways 10 13",
            "two 1000001", "fewest 1000001", f"at {10 ** 20 + 1}", "place 010", "base 037", "base 1 1", "place 10 1",
        ):
            with self.subTest(words=words):
                self.refused(NoCommand, desk.say, words)
        for words in ("way 10 2 5", f"way 10 2 {10 ** 40}", "way 21 2 0", "way 0 1 0", "way 5 0 0", "way 5 6 0"):
            with self.subTest(words=words):
                self.refused(NoPlace, desk.say, words)
        for words in ("place 10", "place 12", f"place {10 ** 40}"):
            with self.subTest(words=words):
                self.refused(NoMirror, desk.say, words)
        self.base_is(10, desk)


class NoRows(Saying):

    def none(self, desk, words):
        self.refused(NoCommand, desk.say, words)

    def test_what_is_no_text(self):
        desk = self.in_base(7)
        rows = [("list", ["is", "11"]), ("tuple", ("is", "11")), ("bytes row", b"is 11"), ("number", 11)]
        for name, thing in rows + odd_things():
            with self.subTest(thing=name):
                self.none(desk, thing)
        self.base_is(7, desk)

    def test_no_words(self):
        desk = Desk()
        for words in ("", " ", "  ", "\n", " \n ", "~", "0", "10", "1 1", "N", "base N", "ways N N", " " * 3000):
            with self.subTest(words=words):
                self.none(desk, words)

    def test_other_words(self):
        desk = Desk()
        for words in (
            "bases 10", "bas 10", "figure 10", "iss 11", "i 11", "mirrored 11", "at_most 11", "atmost 11", "at_least 11",
            "many_to 5", "say 11", "say is 11", "answer 11", "ok", "yes", "help", "quit", "all_ways 10", "table 10",
            "paper 21", "paper_of 21", "hardest 10", "by_two 10", "way_at 10 2 0", "__init__ 1", "read 9 + 1", "none 1",
        ):
            with self.subTest(words=words):
                self.none(desk, words)
        self.base_is(10, desk)

    def test_great_letters(self):
        desk = Desk()
        for words in list(EXAMPLES) + ["base 7"]:
            for changed in (words.upper(), words.title(), words[0].upper() + words[1:]):
                with self.subTest(words=changed):
                    self.none(desk, changed)
        self.base_is(10, desk)

    def test_blanks_otherwise(self):
        desk = Desk()
        for words in list(EXAMPLES) + ["base 7"]:
            for changed in (
                " " + words, words + " ", words.replace(" ", "  "), words.replace(" ", "  ", 1), words.replace(" ", ""),
                words.replace(" ", "\n"), words.replace(" ", "\t"), words + "\n", "\n" + words, words.replace(" ", " \n"),
                words.replace(" ", "-"), words.replace(" ", "\u00a0"), f"{words}\n{words}", f"{words} {words}",
                words.replace(" ", ", "), words + ";", words + ".",
            ):
                with self.subTest(words=changed):
                    self.none(desk, changed)
        self.base_is(10, desk)

    def test_words_too_many_or_too_few(self):
        desk = Desk()
        for word, bounds in BOUNDS.items():
            for many in range(6):
                if many != len(bounds):
                    words = " ".join([word] + ["2"] * many)
                    with self.subTest(words=words):
                        self.none(desk, words)
        self.none(desk, "1 base")
        self.none(desk, "11 is")
        self.base_is(10, desk)

    def test_what_is_no_number(self):
        for base in (10, 36):
            desk = self.in_base(base)
            for words in list(EXAMPLES) + ["base 7"]:
                word, *numbers = words.split(" ")
                for changed in rows_around(word, numbers):
                    with self.subTest(words=changed[:60]):
                        self.none(desk, changed)
            self.base_is(base, desk)

    def test_figures_of_the_base_are_no_numbers(self):
        desk = self.in_base(16)
        for words in ("figures ff", "figures FF", "is b", "below 1f", "above a", "two c", "base a"):
            self.none(desk, words)
        self.said("15 15", desk, "figures 255")


class Refused(Saying):

    def test_what_is_refused_changes_nothing(self):
        refused = [
            (NoCommand, None), (NoCommand, "base"), (NoCommand, "base 02"), (NoBase, "base 1"), (NoBase, "base 37"),
            (NoCommand, "base 2 2"), (NoCommand, "Base 2"), (NoCommand, "base 2 "), (NoCommand, "base 2\n"),
            (NoPlace, "way 2 2 9"), (NoCommand, "way 501 2 0"), (NoMirror, "place 1234567891"),
        ]
        for base in ALL_BASES:
            desk = self.in_base(base)
            for refusal, words in refused:
                self.refused(refusal, desk.say, words)
                self.base_is(base, desk)

    def test_answered_as_before(self):
        desk = Desk()
        for words, answer in EXAMPLES.items():
            for wrong in ("base 37", "base x", "place 10", "way 10 2 5", "", None):
                with self.assertRaises(MirrorError):
                    desk.say(wrong)
                self.said(answer, desk, words)

    def test_behind_other_bases(self):
        desk = Desk()
        for words, answer in EXAMPLES.items():
            for base in (2, 36, 16):
                self.said("ok", desk, f"base {base}")
                try:
                    desk.say(words)
                except (NoMirror, NoPlace):
                    pass
                self.said("ok", desk, "base 10")
                self.said(answer, desk, words)


if __name__ == "__main__":
    unittest.main()
