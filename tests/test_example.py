"""The example [60]: its faults, its frame, its atoms, its machine, its words, its answers, and what is told of it."""

import itertools
import unittest

from leaveledger.answers import answer, stands
from leaveledger.back import comers
from leaveledger.books import Book
from leaveledger.claims import claimed
from leaveledger.deciding import decide
from leaveledger.faults import faults
from leaveledger.grounds import ground
from leaveledger.growing import link_claim
from leaveledger.languages import Language
from leaveledger.machines import machine, takes
from leaveledger.parting import parting
from leaveledger.reading import read
from leaveledger.shortest import shortest
from leaveledger.sights import is_sight, judge_completion
from leaveledger.sure import sure
from leaveledger.tables import table
from leaveledger.walked import walked
from leaveledger.within import within
from leaveledger.worlds import world_of
from tests.samples import EXAMPLE

TREE = read(EXAMPLE)
BOOK = Book(TREE)
FRAME = ("clerk", "view", "paper")
IN, KEEPS = ("step", "in", ()), ("step", "keeps", ())
SEES = ("then", ("star", IN), KEEPS)
GILT = ("then", ("then", ("then", ("star", IN), ("step", "in", (("gold", True),))), ("star", IN)), KEEPS)
WORLD = world_of(
    BOOK,
    [("ana", "clerk", ()), ("bob", "clerk", ()), ("red", "team", ("gold",)), ("blue", "team", ()), ("memo", "paper", ())],
    [("ana", "in", "red"), ("bob", "in", "blue"), ("blue", "keeps", "memo"), ("red", "keeps", "memo")],
)


class ExampleTest(unittest.TestCase):
    def test_faults(self):
        self.assertEqual(faults(TREE), ())

    def test_frame(self):
        self.assertEqual(BOOK.frames, (FRAME,))
        self.assertEqual(BOOK.policies(FRAME), ("p1", "p2"))

    def test_atoms(self):
        self.assertEqual(BOOK.atoms(FRAME), (("walk", SEES, "thing"), ("flag", "inside"), ("walk", GILT, "thing")))

    def test_machine(self):
        rows = (((("in", "team", ()), 0), (("in", "team", ("gold",)), 0), (("keeps", "paper", ()), 1)), ())
        self.assertEqual(machine(BOOK, "clerk", ("named", "sees"), "paper"), (rows, 1))
        self.assertEqual(machine(BOOK, "clerk", SEES, "paper"), (rows, 1))

    def test_gilt_lies_within_sees(self):
        sees, gilt = [Language(BOOK, "clerk", ("named", name), "paper") for name in ("sees", "gilt")]
        self.assertIs(gilt.inside(sees), True)
        self.assertIs(sees.inside(gilt), False)
        word = (("keeps", "paper", ()),)
        self.assertTrue(word in sees and word not in gilt)
        self.assertIs(takes(sees.least, word), True)

    def test_the_least_word_beyond(self):
        self.assertEqual(within(BOOK, "clerk", ("named", "sees"), (("named", "gilt"),), "paper"), ("beyond", (("keeps", "paper", ()),)))
        self.assertEqual(within(BOOK, "clerk", ("named", "gilt"), (("named", "sees"),), "paper")[0], "within")
        self.assertEqual(parting(BOOK, "clerk", ("named", "gilt"), ("named", "sees"), "paper"), (("keeps", "paper", ()),))

    def test_paths(self):
        path = (("in", "red"), ("keeps", "memo"))
        self.assertEqual(shortest(BOOK, WORLD, ("named", "gilt"), "ana", "memo"), path)
        self.assertIsNone(shortest(BOOK, WORLD, ("named", "gilt"), "bob", "memo"))
        self.assertEqual(comers(BOOK, WORLD, ("named", "sees"), "memo"), ("ana", "blue", "bob", "red"))

    def test_answers_by_table(self):
        for name, flag in itertools.product(("ana", "bob"), (False, True)):
            ask = (name, "view", "memo", (flag,), (), 0)
            valuation = tuple(stands(BOOK, WORLD, ask, atom) for atom in BOOK.atoms(FRAME))
            self.assertEqual(decide(table(BOOK, FRAME), valuation)[0], answer(BOOK, WORLD, ask))

    def test_what_is_told_of_bob(self):
        sight = ((("blue", "team", ()), ("bob", "clerk", ()), ("memo", "paper", ())), (("blue", "keeps", "memo"), ("bob", "in", "blue")),
                 (), (), ())
        self.assertIs(is_sight(BOOK, sight), True)
        ask = ("bob", "view", "memo", (False,), (), 0)
        more = (WORLD[0], tuple(sorted([*WORLD[1], ("bob", "in", "red")])), ())
        for world, effect in ((WORLD, "bar"), (more, "let")):
            self.assertIs(judge_completion(BOOK, sight, ask, (world, ask)), True)
            self.assertEqual(answer(BOOK, world, ask)[0], effect)
        self.assertEqual(sure(BOOK, sight, ask)[0], "open")
        closed = (*sight[:2], (("blue", "in"), ("bob", "in")), (), ())
        self.assertEqual(sure(BOOK, closed, ask)[:2], ("sure", False))
        self.assertIs(judge_completion(BOOK, closed, ask, (WORLD, ask)), True)
        self.assertIs(judge_completion(BOOK, closed, ask, (more, ask)), False)

    def test_what_is_told_of_ana(self):
        nodes = (("ana", "clerk", ()), ("memo", "paper", ()), ("red", "team", ("gold",)))
        links = (("ana", "in", "red"), ("red", "keeps", "memo"))
        ask = ("ana", "view", "memo", (False,), (), 0)
        self.assertEqual(sure(BOOK, (nodes, links, (), (), ()), ask)[:2], ("sure", True))
        self.assertEqual(sure(BOOK, (nodes, links, (), (), ()), ("ana", "view", "memo", (None,), (), None))[:2], ("sure", True))
        self.assertEqual([sure(BOOK, (nodes, (link,), (), (), ()), ask)[0] for link in links], ["open", "open"])
        self.assertEqual(ground(BOOK, WORLD, ask), (nodes, links, (), (), ()))

    def test_claims(self):
        gilt, inside = ("walk", "gilt", "thing"), ("flag", "inside")
        self.assertEqual(claimed((BOOK,), FRAME, ("only", ("or", gilt, inside)))[0], "holds")
        world = ((("zz0", "clerk", ()), ("zz1", "paper", ())), (("zz0", "keeps", "zz1"),), ())
        word, (found, ask) = claimed((BOOK,), FRAME, ("only", gilt))
        self.assertEqual((word, found, ask[:4]), ("broken", world, ("zz0", "view", "zz1", (True,))))

    def test_further_links(self):
        self.assertEqual(link_claim(BOOK, FRAME, ("keeps", ("in", "keeps")))[0], "holds")
        self.assertEqual(link_claim(BOOK, FRAME, ("safe", ("in", "keeps")))[0], "broken")

    def test_answers(self):
        self.assertEqual(answer(BOOK, WORLD, ("ana", "view", "memo", (False,), (), 0)), ("let", 5, ("p1",), ("log",)))
        self.assertEqual(answer(BOOK, WORLD, ("bob", "view", "memo", (False,), (), 0)), ("bar", 7, ("p2",), ()))
        self.assertEqual(answer(BOOK, WORLD, ("bob", "view", "memo", (True,), (), 0)), ("let", 5, ("p1",), ("log",)))
        self.assertEqual(answer(BOOK, WORLD, ("ana", "edit", "memo", (False,), (), 0)), ("none", 0, (), ()))

    def test_atoms_in_the_world(self):
        truths = {"ana": [True, False, True], "bob": [True, False, False]}
        for name, expected in truths.items():
            ask = (name, "view", "memo", (False,), (), 0)
            self.assertEqual([stands(BOOK, WORLD, ask, atom) for atom in BOOK.atoms(FRAME)], expected)
            self.assertEqual(walked(BOOK, WORLD, ("named", "sees"), name), ("memo",))
        self.assertEqual(walked(BOOK, WORLD, ("named", "gilt"), "bob"), ())


if __name__ == "__main__":
    unittest.main()
