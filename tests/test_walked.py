"""Where walks lead in a world [18], with [5], [15] and [16]."""

import random
import unittest

from leaveledger.books import Book
from leaveledger.errors import NoName
from leaveledger.reading import read
from leaveledger.walked import walked
from leaveledger.worlds import world_of
from tests import chance as by_chance
from tests.plain import Plain
from tests.samples import TOWN

TREE = read(TOWN)
BOOK = Book(TREE)
PLAIN = Plain(TREE)
NODES = (
    ("ana", "clerk", ("gold",)), ("bob", "guest", ()), ("red", "team", ("gold",)), ("blue", "team", ()),
    ("grey", "team", ("old",)), ("case", "box", ("old",)), ("pile", "box", ()), ("memo", "memo", ()),
    ("sheet", "paper", ("old",)), ("leaf", "paper", ()),
)
# Rings: blue and grey; red alone; pile alone.
LINKS = (
    ("ana", "in", "blue"), ("ana", "keeps", "leaf"), ("bob", "in", "red"), ("bob", "tops", "pile"), ("blue", "in", "grey"),
    ("grey", "in", "blue"), ("grey", "in", "case"), ("grey", "keeps", "auditor"), ("blue", "in", "red"), ("red", "in", "red"),
    ("red", "keeps", "sheet"), ("red", "keeps", "memo"), ("pile", "tops", "pile"), ("pile", "tops", "boss"),
    ("pile", "tops", "sheet"),
)
WORLD = world_of(BOOK, NODES, LINKS)


def walk_of(text):
    return read(f"walk w = {text} ;")[0][2]


class WalkedTest(unittest.TestCase):
    def check(self, text, node, *ends):
        self.assertEqual(walked(BOOK, WORLD, walk_of(text), node), tuple(sorted(ends)), (text, node))

    def test_steps(self):
        self.check("in", "ana", "blue")
        self.check("in", "blue", "grey", "red")
        self.check("any", "ana", "blue", "leaf")
        self.check("any", "pile", "pile", "boss", "sheet")
        self.check("tops", "ana")
        self.check("any", "case")

    def test_tests(self):
        self.check("in[gold]", "blue", "red")
        self.check("in[-gold]", "blue", "grey")
        self.check("in[old]", "grey", "case")
        self.check("in[-old -gold]", "grey", "blue")
        self.check("in[old gold]", "blue")

    def test_tags_of_things_are_no_marks(self):
        self.check("keeps[old]", "red")
        self.check("keeps[-old]", "red", "memo", "sheet")
        self.check("tops[-old]", "pile", "pile", "boss", "sheet")
        self.check("table 0 keeps paper [old] 1 final 1", "red")
        self.check("table 0 keeps paper [] 1 final 1", "red", "sheet")

    def test_then_or(self):
        self.check("in in", "ana", "grey", "red")
        self.check("in keeps", "ana")
        self.check("in in keeps", "ana", "auditor", "sheet", "memo")
        self.check("in | keeps", "ana", "blue", "leaf")
        self.check("in (in | keeps)", "bob", "red", "sheet", "memo")
        self.check("keeps in", "ana")
        self.check("keeps in*", "ana", "leaf")
        self.check("keeps in?", "grey", "auditor")

    def test_the_node_itself(self):
        self.check("in*", "case", "case")
        self.check("in?", "ana", "ana", "blue")
        self.check("in{2}", "ana", "ana", "blue", "grey", "red")
        self.check("in{1} keeps?", "ana", "ana", "blue", "leaf")
        self.check("in+", "ana", "blue", "grey", "red", "case")
        self.check("(in? )+", "case", "case")
        self.check("in? | keeps", "case", "case")

    def test_rings(self):
        self.check("in*", "ana", "ana", "blue", "grey", "red", "case")
        self.check("in+", "grey", "blue", "grey", "red", "case")
        self.check("(in in)+", "blue", "blue", "case", "red")
        self.check("(in in)* keeps", "blue", "sheet", "memo")
        self.check("tops+", "pile", "pile", "boss", "sheet")
        self.check("in{3}", "red", "red")
        self.check("in in in in in in in keeps", "bob", "sheet", "memo")

    def test_ends(self):
        self.check("any*", "bob", "bob", "red", "sheet", "memo", "pile", "boss")
        self.check("@sees", "ana", "leaf", "sheet", "memo", "auditor")
        self.check("@gilt", "ana", "sheet", "memo")
        self.check("@far", "grey", "auditor", "blue", "memo", "red", "sheet")
        self.check("any", "grey", "auditor", "blue", "case")

    def test_walks_that_the_book_does_not_name(self):
        self.check("(@sees | in)*", "red", "red", "sheet", "memo")
        self.check("@sees{2}", "ana", "ana", "leaf", "sheet", "memo", "auditor")
        self.check("(in{2} tops{2})? any", "bob", "red", "pile", "sheet", "memo", "boss")
        self.check("@gilt | @sees", "blue", "auditor", "memo", "sheet")

    def test_tables(self):
        self.check("@chart", "ana", "sheet")
        self.check("table 0 in team [] 1 | 1 in team [old] 0 final 0", "ana", "ana", "grey")
        self.check("table 0 in team [] 1 | 1 in team [old] 0 final 1", "ana", "blue")
        self.check("table 0 in team [gold] 0 final 0", "bob", "bob", "red")
        self.check("table 0 in team [gold] 0 final -", "bob")
        self.check("table 0 in team [gold] 1 | 1 in team [gold] 0 final 1", "bob", "red")
        self.check("table 0 in team [] 0 | 0 in team [gold] 0 | 0 in team [old] 0 | 0 in box [old] 0 | 0 keeps auditor [] 0 | "
                   "0 keeps paper [] 0 final 0", "ana", "ana", "auditor", "blue", "case", "grey", "leaf", "red", "sheet")
        self.check("table final 0", "red", "red")
        self.check("table final -", "red")
        self.check("table final 3", "red")
        self.check("table 0 keeps auditor [] 5 final 5", "grey", "auditor")
        self.check("table 2 keeps memo [] 0 | 0 in team [gold] 2 final 0", "blue", "blue", "memo")

    def test_deep_stars(self):
        walk = walk_of("in")
        for _ in range(29):
            walk = ("star", walk)
        for _ in range(3):
            self.assertEqual(walked(BOOK, WORLD, walk, "bob"), ("bob", "red"))
        walk = ("plus", ("or", ("upto", ("plus", walk), 4), ("star", ("then", walk, walk))))
        self.assertEqual(walked(BOOK, WORLD, walk, "ana"), ("ana", "blue", "case", "grey", "red"))

    def test_no_name(self):
        for node in ("sheet", "memo", "leaf", "auditor", "boss", "nobody", "zz0", "clerk", "team", ""):
            for text in ("in*", "@sees", "table final 0", "table 0 in team [] 0 final -"):
                with self.assertRaises(NoName) as caught:
                    walked(BOOK, WORLD, walk_of(text), node)
                self.assertEqual(caught.exception.name, node)
        with self.assertRaises(NoName):
            walked(BOOK, ((), (), ()), walk_of("in"), "ana")

    def test_same_call_twice(self):
        walk = walk_of("in* keeps")
        first = walked(BOOK, WORLD, walk, "ana")
        smaller = (WORLD[0], WORLD[1][1:], WORLD[2])
        self.assertEqual(walked(BOOK, smaller, walk, "ana"), ("leaf",))
        self.assertEqual(walked(BOOK, WORLD, walk, "bob"), ("memo", "sheet"))
        self.assertEqual(walked(BOOK, WORLD, walk, "ana"), first)

    def test_fresh_names(self):
        world = world_of(BOOK, [("zz0", "clerk", ()), ("zz1", "team", ()), ("zz10", "team", ()), ("zz2", "paper", ())],
                         [("zz0", "in", "zz1"), ("zz1", "in", "zz10"), ("zz10", "keeps", "zz2"), ("zz0", "keeps", "zz2")])
        self.assertEqual(walked(BOOK, world, walk_of("any*"), "zz0"), ("zz0", "zz1", "zz10", "zz2"))
        self.assertEqual(walked(BOOK, world, walk_of("@sees"), "zz10"), ("zz2",))

    def test_great_worlds(self):
        nodes = [("ana", "clerk", ())] + [(f"zz{at}", "team", ()) for at in range(58)] + [("leaf", "paper", ())]
        chain = [("ana", "in", "zz0")] + [(f"zz{at}", "in", f"zz{at + 1}") for at in range(57)] + [("zz57", "keeps", "leaf")]
        world = world_of(BOOK, nodes, chain)
        self.assertEqual(walked(BOOK, world, walk_of("@sees"), "ana"), ("leaf",))
        self.assertEqual(len(walked(BOOK, world, walk_of("(in in)*"), "ana")), 30)
        cut = world_of(BOOK, nodes, chain[:20] + chain[21:])
        self.assertEqual(walked(BOOK, cut, walk_of("@sees"), "ana"), ())

    def test_against_the_plain_meaning(self):
        chance = random.Random(8)
        nodes = [row for row in NODES if row[0] not in ("pile", "leaf")]
        signs = (("in", "team", ()), ("in", "team", ("gold",)), ("in", "box", ("old",)), ("keeps", "paper", ()),
                 ("keeps", "auditor", ()), ("tops", "box", ("old",)), ("tops", "boss", ()))
        for turn in range(150):
            world = by_chance.world(chance, BOOK, nodes, 60)
            if turn < 110:
                walk = by_chance.fitting_walk(chance, 5, ("in", "tops", "keeps"), ("gold", "old"), ("sees", "gilt", "boxed"))
            else:
                walk = by_chance.fitting_table(chance, signs, 3, chance.randint(0, 9))
            for node in ("ana", "bob", "red", "case"):
                self.assertEqual(walked(BOOK, world, walk, node), PLAIN.walked(world, walk, node), (world, walk, node))

    def test_words_of_paths(self):
        # Each short path has its end among the ends of each walk of which its word is one.
        chance = random.Random(9)
        linked = PLAIN.linked(WORLD)
        for _ in range(60):
            walk = by_chance.fitting_walk(chance, 4, ("in", "tops", "keeps"), ("gold", "old"), ("sees",))
            for node in ("ana", "bob", "grey"):
                paths = [((), node)]
                for _ in range(4):
                    for word, end in paths:
                        if PLAIN.has_word(walk, word):
                            self.assertIn(end, walked(BOOK, WORLD, walk, node))
                    paths = [((*word, letter), end) for word, name in paths for start, letter, end in linked if start == name]


if __name__ == "__main__":
    unittest.main()
