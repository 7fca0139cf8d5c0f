"""Places of walks, and sets of them behind letters [16], with [5] and [13]."""

import itertools
import random
import unittest

from leaveledger.books import Book
from leaveledger.places import Places
from leaveledger.reading import read
from tests.chance import fitting_table, fitting_walk
from tests.plain import Plain
from tests.samples import TOWN

TREE = read(TOWN)
BOOK = Book(TREE)
PLAIN = Plain(TREE)
IN, GOLD, BOTH = ("in", "team", ()), ("in", "team", ("gold",)), ("in", "team", ("gold", "old"))
OLD_BOX, KEEPS, WEARS = ("in", "box", ("old",)), ("keeps", "paper", ()), ("keeps", "auditor", ())
TOPS = ("tops", "box", ())
LETTERS = (IN, GOLD, BOTH, OLD_BOX, KEEPS, WEARS, TOPS)


def walk_of(text):
    """The walk of a text."""
    return read(f"walk w = {text} ;")[0][2]


def places_of(text):
    return Places(BOOK, walk_of(text))


class PlacesTest(unittest.TestCase):
    def check(self, text, size, last, *rows):
        """The size and the last places of a walk, and rows of a set of places, a letter, and the next set."""
        places = places_of(text)
        self.assertEqual((places.size, places.last), (size, last), text)
        for _ in range(2):
            for at, letter, expected in rows:
                self.assertEqual(places(at, letter), expected, (text, at, letter))

    def test_step(self):
        self.check("in", 1, (1,), ((0,), IN, (1,)), ((0,), BOTH, (1,)), ((0,), OLD_BOX, (1,)), ((0,), KEEPS, ()),
                   ((0,), TOPS, ()), ((1,), IN, ()), ((0, 1), IN, (1,)))
        self.check("any", 1, (1,), *[((0,), letter, (1,)) for letter in LETTERS], ((1,), IN, ()))

    def test_tests(self):
        self.check("in[gold]", 1, (1,), ((0,), IN, ()), ((0,), GOLD, (1,)), ((0,), BOTH, (1,)), ((0,), OLD_BOX, ()))
        self.check("in[-gold]", 1, (1,), ((0,), IN, (1,)), ((0,), GOLD, ()), ((0,), BOTH, ()), ((0,), OLD_BOX, (1,)))
        self.check("in[gold -old]", 1, (1,), ((0,), IN, ()), ((0,), GOLD, (1,)), ((0,), BOTH, ()))
        self.check("in[old gold]", 1, (1,), ((0,), OLD_BOX, ()), ((0,), GOLD, ()), ((0,), BOTH, (1,)))
        self.check("any[-old]", 1, (1,), ((0,), OLD_BOX, ()), ((0,), TOPS, (1,)), ((0,), KEEPS, (1,)), ((0,), GOLD, (1,)))

    def test_tests_of_things_and_badges(self):
        self.check("keeps[gold]", 1, (1,), ((0,), KEEPS, ()), ((0,), WEARS, ()))
        self.check("keeps[-gold -old]", 1, (1,), ((0,), KEEPS, (1,)), ((0,), WEARS, (1,)))
        self.check("any[old -gold]", 1, (1,), ((0,), KEEPS, ()), ((0,), WEARS, ()), ((0,), OLD_BOX, (1,)))

    def test_then(self):
        self.check("in keeps", 2, (2,), ((0,), IN, (1,)), ((0,), KEEPS, ()), ((1,), KEEPS, (2,)), ((1,), IN, ()),
                   ((2,), KEEPS, ()), ((0, 1), KEEPS, (2,)))
        self.check("in* keeps?", 2, (0, 1, 2), ((0,), IN, (1,)), ((0,), KEEPS, (2,)), ((1,), KEEPS, (2,)), ((2,), IN, ()))
        self.check("in keeps?", 2, (1, 2), ((0,), KEEPS, ()))
        self.check("in? keeps", 2, (2,), ((0,), KEEPS, (2,)), ((0,), IN, (1,)))
        self.check("in (tops? keeps?) in", 4, (4,), ((1,), TOPS, (2,)), ((1,), KEEPS, (3,)), ((1,), IN, (4,)),
                   ((2,), KEEPS, (3,)), ((2,), IN, (4,)), ((3,), TOPS, ()), ((3,), IN, (4,)), ((0,), TOPS, ()))

    def test_or(self):
        self.check("in | keeps", 2, (1, 2), ((0,), IN, (1,)), ((0,), KEEPS, (2,)), ((1,), KEEPS, ()), ((2,), IN, ()))
        self.check("in | in | any", 3, (1, 2, 3), ((0,), IN, (1, 2, 3)), ((0,), KEEPS, (3,)), ((1, 2, 3), IN, ()))
        self.check("in | keeps?", 2, (0, 1, 2))
        self.check("in? | keeps", 2, (0, 1, 2))

    def test_star_plus_maybe(self):
        self.check("in*", 1, (0, 1), ((0,), IN, (1,)), ((1,), IN, (1,)), ((1,), KEEPS, ()))
        self.check("in+", 1, (1,), ((0,), IN, (1,)), ((1,), IN, (1,)))
        self.check("in?", 1, (0, 1), ((0,), IN, (1,)), ((1,), IN, ()))
        self.check("(in? )+", 1, (0, 1), ((1,), IN, (1,)))
        self.check("(in tops)*", 2, (0, 2), ((2,), IN, (1,)), ((1,), IN, ()), ((1,), TOPS, (2,)), ((2,), TOPS, ()))
        self.check("(in tops)+", 2, (2,), ((2,), IN, (1,)))
        self.check("(in tops)?", 2, (0, 2), ((2,), IN, ()))
        self.check("(in | tops?)* keeps", 3, (3,), ((1,), TOPS, (2,)), ((2,), IN, (1,)), ((0,), KEEPS, (3,)), ((3,), IN, ()))

    def test_several_places(self):
        self.check("in* in keeps", 3, (3,), ((0,), IN, (1, 2)), ((1, 2), IN, (1, 2)), ((1, 2), KEEPS, (3,)), ((1,), KEEPS, ()),
                   ((2,), IN, ()), ((2,), KEEPS, (3,)))
        self.check("(in | any)* in[gold] any", 4, (4,), ((0,), GOLD, (1, 2, 3)), ((1, 2, 3), GOLD, (1, 2, 3, 4)),
                   ((1, 2), IN, (1, 2)), ((3,), KEEPS, (4,)), ((0, 1, 2, 3, 4), TOPS, (2, 4)))

    def test_upto_is_written_out(self):
        self.check("in{1}", 1, (0, 1), ((1,), IN, ()))
        self.check("in{3}", 3, (0, 1, 2, 3), ((0,), IN, (1, 2, 3)), ((1,), IN, (2, 3)), ((2,), IN, (3,)), ((3,), IN, ()))
        self.check("(in tops){2} keeps", 5, (5,), ((0,), IN, (1, 3)), ((1, 3), TOPS, (2, 4)), ((2, 4), IN, (3,)),
                   ((2, 4), KEEPS, (5,)), ((0,), KEEPS, (5,)))
        self.check("(in{4} | keeps){2}", 10, tuple(range(11)), ((4,), IN, (6, 7, 8, 9)), ((5,), KEEPS, (10,)))

    def test_named(self):
        self.check("@sees", 2, (2,), ((0,), IN, (1,)), ((1,), KEEPS, (2,)))
        self.check("@sees | @sees in", 5, (2, 5), ((0,), IN, (1, 3)), ((1, 3), KEEPS, (2, 4)), ((2, 4), IN, (5,)))
        self.check("(@gilt)*", 4, (0, 4), ((0,), GOLD, (1, 2)), ((1, 2), IN, (1, 3)), ((1, 2), KEEPS, (4,)), ((4,), IN, (1,)))
        self.check("@far{2}", 14, tuple([0, 7, 14]))
        self.check("@chart", 2, (2,), ((0,), GOLD, (1,)))

    def test_nested_in_each_other(self):
        self.check("((in? tops)+ | @sees{1})* keeps{2}", 6, (0, 2, 4, 5, 6),
                   ((0,), IN, (1, 3)), ((0,), TOPS, (2,)), ((0,), KEEPS, (4, 5, 6)), ((1,), TOPS, (2,)), ((1,), KEEPS, ()),
                   ((2,), IN, (1, 3)), ((2, 4), TOPS, (2,)), ((4,), KEEPS, (4, 5, 6)), ((5,), KEEPS, (6,)), ((6,), KEEPS, ()),
                   ((5,), IN, ()), ((3,), IN, (3,)), ((3,), KEEPS, (4,)), ((3,), TOPS, ()))

    def test_empty_set(self):
        for text in ("in", "any*", "@sees{2}", "table 0 in team [] 0 final 0"):
            for letter in LETTERS:
                self.assertEqual(places_of(text)((), letter), ())

    def test_tables(self):
        rows = [((0,), IN, (1, 7)), ((1, 7), IN, (0, 3)), ((1,), IN, (0,)), ((7,), IN, (3,)), ((0,), GOLD, (0,)),
                ((0, 1), GOLD, (0,)), ((3,), IN, ()), ((5,), IN, ()), ((0,), OLD_BOX, ()), ((0,), KEEPS, ()), ((2,), BOTH, (39,))]
        moves = ["0 in team [] 7", "0 in team [] 1", "1 in team [] 0", "7 in team [] 3", "0 in team [gold] 0",
                 "2 in team [gold old] 39", "0 in team [] 7"]
        for order in (moves, moves[::-1], sorted(moves), moves[:-1]):
            self.check(f"table {'|'.join(order)} final 3", 39, (3,), *rows)
        self.check("table 0 in team [] 1 final -", 1, (), ((0,), IN, (1,)))
        self.check("table 0 in team [] 1 final 0", 1, (0,), ((0,), IN, (1,)))
        self.check("table 5 in team [] 1 final 0", 5, (0,), ((0,), IN, ()), ((5,), IN, (1,)))
        self.check("table 0 in team [] 1 final 9", 9, (9,), ((0,), IN, (1,)))
        self.check("table final -", 0, (), ((0,), IN, ()))
        self.check("table final 0", 0, (0,), ((0,), IN, ()))
        self.check("table final 39", 39, (39,), ((0,), IN, ()), ((39,), IN, ()))

    def test_letters_of_tables_are_whole(self):
        self.check("table 0 in team [gold] 1 final 1", 1, (1,), ((0,), BOTH, ()), ((0,), IN, ()), ((0,), GOLD, (1,)),
                   ((0,), ("in", "box", ("gold",)), ()), ((0,), ("tops", "team", ("gold",)), ()))

    def test_sets_are_ascending_tuples(self):
        chance = random.Random(5)
        for _ in range(200):
            places = Places(BOOK, fitting_walk(chance, 5, ("in", "tops", "keeps"), ("gold", "old"), ("sees", "gilt")))
            at = tuple(sorted(chance.sample(range(places.size + 1), chance.randint(0, places.size + 1))))
            for found in (places.last, *[places(at, letter) for letter in LETTERS]):
                self.assertIs(type(found), tuple)
                self.assertEqual(list(found), sorted(set(found)))
                self.assertTrue(set(found) <= set(range(places.size + 1)))
            self.assertEqual(set(places(at, IN)), {after for place in at for after in places((place,), IN)})

    def test_against_the_plain_meaning(self):
        chance = random.Random(6)
        words = [word for many in range(4) for word in itertools.product(LETTERS, repeat=many)]
        for turn in range(120):
            if turn < 80:
                walk = fitting_walk(chance, 5, ("in", "tops", "keeps"), ("gold", "old"), ("sees", "gilt"))
            else:
                walk = fitting_table(chance, LETTERS[:4], 4, chance.randint(0, 9))
            places = Places(BOOK, walk)
            for word in chance.sample(words, 60):
                at = (0,)
                for letter in word:
                    at = places(at, letter)
                self.assertIs(bool(set(at) & set(places.last)), PLAIN.has_word(walk, word), (walk, word))

    def test_two_walks_do_not_share(self):
        first, second = places_of("in tops"), places_of("any in")
        self.assertEqual((first((0,), IN), second((0,), IN), first((1,), IN), second((1,), IN)), ((1,), (1,), (), (2,)))
        self.assertEqual((first.last, first.size), (second.last, second.size))


if __name__ == "__main__":
    unittest.main()
