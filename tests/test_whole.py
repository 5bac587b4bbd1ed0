"""Points 1 and 3 and the interface over the whole program: names, own lists, the same told again."""

import copy
import importlib
import inspect
import random
import unittest

from mirrorsums import errors
from mirrorsums.desk import Desk
from mirrorsums.few import a_few
from mirrorsums.fewest import fewest
from mirrorsums.figures import figures, is_mirrored, number_of
from mirrorsums.nearest import at_least, at_most, many_to, mirrored_at, place_of
from mirrorsums.notes import read_way, show_way
from mirrorsums.papers import is_paper, paper_of
from mirrorsums.several import in_all, next_in_all
from mirrorsums.tables import hardest, how_many, table
from mirrorsums.two import by_two, first_by_two, many_by_two
from mirrorsums.ways import all_ways, many_ways, way_at, way_place
from tests.plain import Asking, odd_things, wrong_bases, wrong_lists_of_bases

INTERFACE = {
    "figures": {"figures": "number base", "number_of": "thing base", "is_mirrored": "thing base"},
    "nearest": {
        "at_most": "number base", "at_least": "number base", "many_to": "number base", "mirrored_at": "place base",
        "place_of": "thing base",
    },
    "few": {"a_few": "number base"},
    "two": {"by_two": "number base", "many_by_two": "number base", "first_by_two": "number base"},
    "fewest": {"fewest": "number base"},
    "ways": {
        "many_ways": "number base many", "all_ways": "number base", "way_at": "number base many place",
        "way_place": "number base thing",
    },
    "tables": {"table": "bound base", "how_many": "bound base many", "hardest": "bound base"},
    "several": {"in_all": "bound bases", "next_in_all": "number bound bases"},
    "papers": {"paper_of": "number base", "is_paper": "number base thing"},
    "notes": {"show_way": "way", "read_way": "text"},
    "desk": {"Desk": ""},
}


def say_in(base, words):
    desk = Desk()
    desk.say(f"base {base}")
    return desk.say(words)


def ordinary_calls():
    """Calls of every function, in several bases, that tell something."""
    calls = [(show_way, ([],)), (show_way, ([9, 5, 1],)), (read_way, ("0",)), (read_way, ("9 + 5 + 1",))]
    for base in (2, 3, 10, 16, 36):
        calls += [
            (figures, (12345, base)), (figures, (10 ** 40, base)), (number_of, ([1, 0, 1, 1], base)),
            (is_mirrored, (99, base)), (is_mirrored, ([1, [2]], base)), (at_most, (98765, base)),
            (at_least, (98765, base)), (many_to, (98765, base)), (mirrored_at, (77, base)),
            (place_of, (base + 1, base)), (a_few, (10 ** 40 - 3, base)), (by_two, (202, base)), (by_two, (203, base)),
            (many_by_two, (202, base)), (first_by_two, (202, base)), (first_by_two, (21, base)),
            (fewest, (999988, base)), (many_ways, (90, base, 3)), (all_ways, (90, base)),
            (way_at, (90, base, 4, 5)), (way_place, (3, base, [1, 1, 1])), (table, (200, base)),
            (how_many, (200, base, 2)), (hardest, (200, base)), (in_all, (3000, [base])),
            (next_in_all, (40, 3000, [base])), (paper_of, (2 * base + 1, base)), (paper_of, (base, base)),
            (is_paper, (2 * base + 1, base, paper_of(2 * base + 1, base))), (is_paper, (21, base, [(0, 0)])),
            (say_in, (base, "figures 12345")), (say_in, (base, "few 12345")), (say_in, (base, "fewest 999988")),
            (say_in, (base, "ways 90 3")), (say_in, (base, "way 90 4 5")), (say_in, (base, "at 77")),
        ]
    for bases in ([2, 3], [2, 10], [3, 10, 16], [2, 3, 10, 16, 36]):
        calls += [(in_all, (3000, bases)), (next_in_all, (3, 10000, bases))]
    return calls


def refused_calls():
    """Calls that are refused, and by which refusal."""
    desk = Desk()
    return [
        (errors.NoBase, figures, (12, 1)), (errors.NoNumber, number_of, ([0, 1], 10)),
        (errors.NoBase, number_of, ([0, 1], 37)), (errors.NoBase, is_mirrored, (None, True)),
        (errors.NoMirror, place_of, (10, 10)), (errors.NoBase, place_of, (10, None)), (errors.NoBase, a_few, (12, 0)),
        (errors.NoBase, by_two, (12, [10])), (errors.NoBase, fewest, (12, "10")),
        (errors.NoPlace, way_at, (10, 10, 2, 5)), (errors.NoWay, way_place, (10, 10, [1, 9])),
        (errors.NoBase, way_place, (10, -1, [1, 9])), (errors.NoBase, table, (12, 37)),
        (errors.NoBase, in_all, (100, [10, 2])), (errors.NoBase, next_in_all, (1, 100, (2, 10))),
        (errors.NoBase, paper_of, (21, 1)), (errors.NoBase, is_paper, (21, 1, [])), (errors.NoText, read_way, ("1 + 2",)),
        (errors.NoCommand, desk.say, ("base",)), (errors.NoBase, desk.say, ("base 37",)),
        (errors.NoMirror, desk.say, ("place 10",)), (errors.NoPlace, desk.say, ("way 10 2 5",)),
    ]


def spoil(told):
    """Change a told list, and each list in it."""
    if isinstance(told, list):
        for item in told:
            spoil(item)
        told.append(12)
        told[0] = None
        told.reverse()


class Interface(Asking):

    def test_each_name_with_its_arguments(self):
        for module, names in INTERFACE.items():
            found = importlib.import_module(f"mirrorsums.{module}")
            for name, arguments in names.items():
                with self.subTest(module=module, name=name):
                    self.assertEqual(arguments.split(), list(inspect.signature(getattr(found, name)).parameters))
        self.assertEqual(["words"], list(inspect.signature(Desk().say).parameters))

    def test_every_function_is_called_here(self):
        called = {call.__name__ for call, given in ordinary_calls()}
        for names in INTERFACE.values():
            self.assertEqual(set(), set(names) - called - {"Desk"})


class Again(Asking):

    def test_the_same_in_any_order_and_behind_refusals(self):
        calls = ordinary_calls()
        first = [copy.deepcopy(call(*copy.deepcopy(given))) for call, given in calls]
        refused = refused_calls()
        for seed in range(6):
            order = random.Random(seed)
            places = list(range(len(calls)))
            order.shuffle(places)
            for place in places:
                call, given = calls[place]
                with self.subTest(call=call.__name__, given=given):
                    told = call(*copy.deepcopy(given))
                    self.assertEqual(first[place], told)
                    self.assertIs(type(first[place]), type(told))
                refusal, wrong, thing = refused[order.randrange(len(refused))]
                self.refused(refusal, wrong, *thing)

    def test_told_lists_are_the_askers_own(self):
        for call, given in ordinary_calls():
            with self.subTest(call=call.__name__, given=given):
                told = call(*copy.deepcopy(given))
                kept = copy.deepcopy(told)
                second = call(*copy.deepcopy(given))
                spoil(told)
                self.assertEqual(kept, second)
                self.assertEqual(kept, call(*copy.deepcopy(given)))

    def test_handed_lists_stay_and_are_not_kept(self):
        for call, given in ordinary_calls():
            with self.subTest(call=call.__name__, given=given):
                handed = copy.deepcopy(given)
                told = call(*handed)
                kept = copy.deepcopy(told)
                self.assertEqual(given, handed)
                for item in handed:
                    spoil(item)
                self.assertEqual(kept, told)
                self.assertEqual(kept, call(*copy.deepcopy(given)))

    def test_refused_lists_stay(self):
        for refusal, call, given in refused_calls():
            handed = copy.deepcopy(given)
            self.refused(refusal, call, *handed)
            self.assertEqual(given, handed)
            self.refused(refusal, call, *handed)


class NoBaseAheadOfAll(Asking):

    def test_in_every_call_with_a_base(self):
        with_a_base = [
            (call, given, list(inspect.signature(call).parameters))
            for call, given in ordinary_calls() if call not in (show_way, read_way, say_in)
        ]
        things = [thing for name, thing in odd_things()] + [-1, 10 ** 41]
        for call, given, names in {call: (call, given, names) for call, given, names in with_a_base}.values():
            base_at = names.index("bases" if "bases" in names else "base")
            wrong = wrong_lists_of_bases() if "bases" in names else wrong_bases()
            for name, base in wrong:
                with self.subTest(call=call.__name__, base=name):
                    self.refused(errors.NoBase, call, *given[:base_at], base, *given[base_at + 1:])
            for thing in things:
                others = [thing] * len(given)
                for base in (None, 1, 37, True, [37], [], "10"):
                    others[base_at] = base
                    self.refused(errors.NoBase, call, *others)


if __name__ == "__main__":
    unittest.main()
