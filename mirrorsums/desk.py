"""The desk: rows of words, each answered by a text."""

from mirrorsums.errors import NoCommand
from mirrorsums.few import a_few
from mirrorsums.fewest import fewest
from mirrorsums.figures import check_base, figures, is_mirrored
from mirrorsums.nearest import at_least, at_most, many_to, mirrored_at, place_of
from mirrorsums.notes import is_written, show_way
from mirrorsums.two import many_by_two
from mirrorsums.ways import many_ways, way_at

FIRST_BASE = 10
# So many has 10 ** 40, the greatest number that any row takes.
MOST_FIGURES = 41

# The first word of each row, and the greatest number that may stand at each place behind it.
BOUNDS = {
    "base": (10 ** 40,),
    "figures": (10 ** 40,),
    "is": (10 ** 40,),
    "below": (10 ** 40,),
    "above": (10 ** 40,),
    "count": (10 ** 40,),
    "at": (10 ** 20,),
    "place": (10 ** 40,),
    "few": (10 ** 40,),
    "two": (10 ** 6,),
    "fewest": (10 ** 6,),
    "ways": (500, 12),
    "way": (500, 12, 10 ** 40),
}


def answer_figures(base, numbers):
    """The figures of a number, parted by blanks."""
    return " ".join([str(figure) for figure in figures(numbers[0], base)])


def answer_is(base, numbers):
    """Whether a number is mirrored."""
    return "yes" if is_mirrored(numbers[0], base) else "no"


def answer_below(base, numbers):
    """The greatest mirrored number at most a number."""
    return str(at_most(numbers[0], base))


def answer_above(base, numbers):
    """The least mirrored number at least a number."""
    return str(at_least(numbers[0], base))


def answer_count(base, numbers):
    """How many mirrored numbers there are from 1 to a number."""
    return str(many_to(numbers[0], base))


def answer_at(base, numbers):
    """The mirrored number at a place."""
    return str(mirrored_at(numbers[0], base))


def answer_place(base, numbers):
    """The place of a mirrored number."""
    return str(place_of(numbers[0], base))


def answer_few(base, numbers):
    """A few mirrored numbers that come to a number."""
    return show_way(a_few(numbers[0], base))


def answer_two(base, numbers):
    """How many ways by two a number has."""
    return str(many_by_two(numbers[0], base))


def answer_fewest(base, numbers):
    """The way of a number with the fewest."""
    return show_way(fewest(numbers[0], base))


def answer_ways(base, numbers):
    """How many ways a number has by so many."""
    number, many = numbers
    return str(many_ways(number, base, many))


def answer_way(base, numbers):
    """The way of a number by so many at a place."""
    number, many, place = numbers
    return show_way(way_at(number, base, many, place))


# All rows but that of the base, which alone changes the desk.
ANSWERS = {
    "figures": answer_figures,
    "is": answer_is,
    "below": answer_below,
    "above": answer_above,
    "count": answer_count,
    "at": answer_at,
    "place": answer_place,
    "few": answer_few,
    "two": answer_two,
    "fewest": answer_fewest,
    "ways": answer_ways,
    "way": answer_way,
}


def read_number(word, bound):
    """The number that a word writes, at most a bound."""
    # How long the word is comes first: Python itself refuses to read thousands of figures.
    if not is_written(word, MOST_FIGURES):
        raise NoCommand("a number is written by figures of ten, no nought ahead")
    number = int(word)
    if number > bound:
        raise NoCommand("the number is too great for this row")
    return number


def read_row(words):
    """The first word of a row, and its numbers: a new list."""
    if not isinstance(words, str):
        raise NoCommand("a row of words is a text")
    first, *others = words.split(" ")
    if first not in BOUNDS:
        raise NoCommand("no row begins like this")
    bounds = BOUNDS[first]
    if len(others) != len(bounds):
        raise NoCommand("the row has words too many or too few")
    return first, [read_number(word, bound) for word, bound in zip(others, bounds)]


class Desk:
    """A desk with a base of its own, at first 10."""

    def __init__(self):
        """A new desk."""
        self.base = FIRST_BASE

    def say(self, words):
        """The answer to a row of words: a text."""
        first, numbers = read_row(words)
        if first == "base":
            check_base(numbers[0])
            self.base = numbers[0]
            return "ok"
        answer = ANSWERS[first]
        return answer(self.base, numbers)
