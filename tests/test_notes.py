"""Points 1 and 26: show_way, read_way."""

import unittest

from mirrorsums.errors import NoText
from mirrorsums.few import a_few
from mirrorsums.fewest import fewest
from mirrorsums.notes import read_way, show_way
from mirrorsums.two import by_two
from mirrorsums.ways import many_ways, way_at
from tests.plain import ALL_BASES, SEVERAL_BASES, Asking, great_numbers, odd_things

FORTY = 10 ** 40 - 1


class ShowWay(Asking):

    def told(self, wanted, way):
        told = show_way(way)
        self.assertIs(type(told), str)
        self.assertEqual(wanted, told)

    def test_examples(self):
        self.told("0", [])
        self.told("1", [1])
        self.told("11", [11])
        self.told("9 + 1", [9, 1])
        self.told("191 + 9 + 1", [191, 9, 1])
        self.told("5 + 5", [5, 5])
        self.told(" + ".join(["1"] * 500), [1] * 500)

    def test_great_numbers(self):
        self.told("9" * 40, [FORTY])
        self.told("9" * 40 + " + 1", [FORTY, 1])
        self.told("1" + "0" * 40, [10 ** 40])

    def test_what_is_handed_in_stays(self):
        way = [9, 5, 1]
        self.told("9 + 5 + 1", way)
        self.assertEqual([9, 5, 1], way)
        way[0] = 11
        way.append(1)
        self.told("11 + 5 + 1 + 1", way)


class ReadWay(Asking):

    def test_examples(self):
        self.row([], read_way("0"))
        self.row([1], read_way("1"))
        self.row([11], read_way("11"))
        self.row([9, 1], read_way("9 + 1"))
        self.row([191, 9, 1], read_way("191 + 9 + 1"))
        self.row([5, 5, 5], read_way("5 + 5 + 5"))
        self.row([100, 10], read_way("100 + 10"))

    def test_whether_they_are_mirrored_is_not_looked_at(self):
        self.row([12], read_way("12"))
        self.row([100, 20, 10], read_way("100 + 20 + 10"))
        for number in range(1, 300):
            self.row([number], read_way(str(number)))
            self.row([number, number], read_way(f"{number} + {number}"))
            self.row([number + 1, number], read_way(f"{number + 1} + {number}"))
            self.refused(NoText, read_way, f"{number} + {number + 1}")

    def test_as_many_as_a_text_holds(self):
        self.row([1] * 750, read_way(" + ".join(["1"] * 750)))
        self.row([FORTY] * 69, read_way(" + ".join([str(FORTY)] * 69)))

    def test_forty_figures_and_no_more(self):
        for sign in "123456789":
            self.row([int(sign * 40)], read_way(sign * 40))
            self.refused(NoText, read_way, sign * 41)
            self.refused(NoText, read_way, sign * 41 + " + 1")
            self.refused(NoText, read_way, sign * 41 + " + " + sign * 41)
        self.row([FORTY, FORTY, 1], read_way(f"{FORTY} + {FORTY} + 1"))
        self.row([10 ** 39], read_way("1" + "0" * 39))
        self.refused(NoText, read_way, "1" + "0" * 40)
        for length in (42, 100, 3000, 5000, 20000):
            self.refused(NoText, read_way, "1" * length)
            self.refused(NoText, read_way, "0" * length)

    def test_a_nought_ahead(self):
        for text in ("00", "000", "01", "007", "09 + 1", "9 + 01", "9 + 1 + 01", "011 + 9", "0" * 40, "0" + "9" * 39):
            with self.subTest(text=text):
                self.refused(NoText, read_way, text)

    def test_nought_among_others(self):
        for text in ("0 + 0", "1 + 0", "0 + 1", "9 + 1 + 0", "9 + 0 + 1", "0 + 0 + 0"):
            with self.subTest(text=text):
                self.refused(NoText, read_way, text)

    def test_signs(self):
        for text in (
            "-1", "+1", "-0", "+0", "9 + -1", "9 + +1", "-9 + 1", "9 - 1", "9 * 1", "9 + 1 = 10", "1_0", "1,1", "1.0",
            "1e1", "0x1", "0b1", "a", "1a", "a + 1", "9 + a", "9 + 1;", "9 + 1.", "(9 + 1)", "[]", "[9, 1]", "9, 1",
            "None", "+", " + ", "9 +", "9 + ", "+ 9", " + 9", "9 + + 1", "9 +  + 1", "9 + 1 + ", "9 + 1 +", "~", "''",
        ):
            with self.subTest(text=text):
                self.refused(NoText, read_way, text)

    def test_blanks_otherwise(self):
        for text in (
            " 1", "1 ", " 1 ", "9+1", "9 +1", "9+ 1", "9  + 1", "9 +  1", "9  +  1", " 9 + 1", "9 + 1 ", "9 1", "1 1",
            " 0", "0 ", "\n", "1\n", "\n1", "0\n", "9 + 1\n", "9 +\n1", "9\n+ 1", "9\n+\n1", "9 + \n1", "9\n1", "1\t",
        ):
            with self.subTest(text=text):
                self.refused(NoText, read_way, text)

    def test_empty_texts(self):
        for text in ("", " ", "  ", "   ", "\n", " " * 3000):
            with self.subTest(text=text):
                self.refused(NoText, read_way, text)

    def test_rising_lists(self):
        for text in ("1 + 2", "1 + 9", "9 + 11", "5 + 5 + 6", "6 + 5 + 6", "9 + 1 + 2", "3 + 2 + 1 + 2"):
            with self.subTest(text=text):
                self.refused(NoText, read_way, text)
        # By their figures alone these would not rise.
        self.refused(NoText, read_way, "9 + 10")
        self.refused(NoText, read_way, f"{FORTY - 1} + {FORTY}")
        self.row([10, 9], read_way("10 + 9"))

    def test_what_is_no_text(self):
        for name, thing in odd_things() + [("0", 0), ("1", 1), ("way", [9, 1]), ("bytes of nought", b"0")]:
            if not isinstance(thing, str):
                with self.subTest(thing=name):
                    self.refused(NoText, read_way, thing)

    def test_every_sign_alone_and_between(self):
        for sign in [chr(code) for code in range(32, 127)] + ["\n"]:
            if sign in "0123456789":
                self.row([] if sign == "0" else [int(sign)], read_way(sign))
                self.row([int("1" + sign)], read_way("1" + sign))
            else:
                for text in (sign, "1" + sign, sign + "1", f"1{sign}1", f"9 {sign} 1" if sign != "+" else "9 ++ 1"):
                    self.refused(NoText, read_way, text)

    def test_each_list_is_the_askers_own(self):
        for text in ("0", "1", "9 + 1", "5 + 5 + 5"):
            first = read_way(text)
            second = read_way(text)
            kept = list(first)
            self.assertIsNot(first, second)
            first.append(3)
            first[0] = 8
            self.row(kept, second)
            self.row(kept, read_way(text))


class ThereAndBack(Asking):

    def back(self, way):
        kept = list(way)
        text = show_way(way)
        self.row(kept, read_way(text))
        self.assertEqual(text, show_way(read_way(text)))
        self.assertEqual(kept, way)

    def test_told_ways(self):
        for base in SEVERAL_BASES:
            for number in list(range(60)) + [500, 999, 10 ** 6]:
                self.back(fewest(number, base))
                self.back(a_few(number, base))
                for way in by_two(number, base)[:4]:
                    self.back(way)

    def test_ways_by_so_many(self):
        for base in (2, 10, 36):
            for many in range(13):
                for place in range(min(20, many_ways(40, base, many))):
                    self.back(way_at(40, base, many, place))

    def test_great_numbers(self):
        for base in ALL_BASES:
            for number in great_numbers(base)[::9]:
                if number < 10 ** 40:
                    self.back(a_few(number, base))


if __name__ == "__main__":
    unittest.main()
