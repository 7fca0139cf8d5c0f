"""Books with no more lines that let than needs ask for [47]."""

import random
import unittest

from leaveledger.answers import answer, stands
from leaveledger.books import Book
from leaveledger.claims import claimed
from leaveledger.errors import BadClaim, LimitError, TooMany, Unmet
from leaveledger.leastbook import least_book
from leaveledger.sights import bare, judge_completion
from leaveledger.reading import read
from leaveledger.writing import write_walk
from tests import chance as by_chance
from tests.samples import EXAMPLE, RINGS
from tests.test_claims import COPY, FRAME, GILT, INSIDE, SEES, book_by_chance, book_of
from tests.test_realizing import ring_walk

LITTLE = Book(read(EXAMPLE))
ALWAYS = ("always",)
TEXT = """walk one = in keeps ; walk two = in in keeps ; walk all = in* keeps ; when dead = now <= now - 1 ;
    let p1 rank 5 clerk may view on paper when by one to thing ;
    bar p2 rank 7 clerk may view copy on paper when ask is late ;
    let p3 rank 5 clerk may view copy on paper when by all to thing ;
    let p4 rank 6 clerk may copy on paper when by two to thing or ask is inside ;
    let p5 rank 4 clerk may view on paper when always ;
    let p6 rank 8 clerk may view on paper when ask is inside ;
    bar p7 rank 1 clerk may copy on paper when always ;
    let p8 rank 0 clerk may copy on paper when always ;"""


def without(book, name):
    return Book(tuple(line for line in book.tree if not (line[0] in ("let", "bar") and line[1] == name)))


class LeastBookTest(unittest.TestCase):
    def found(self, book, needs):
        """The names of the lines that let and are left, with all that must be so of what is returned."""
        tree, shown = least_book(book, needs)
        lines = [line for line in book.tree if line in tree or line[0] != "let"]
        self.assertEqual(tree, tuple(lines))
        left = Book(tree)
        for frame, cond in needs:
            self.assertEqual(claimed((left,), frame, ("if", cond))[0], "holds")
        names = [line[1] for line in tree if line[0] == "let"]
        self.assertEqual([row[0] for row in shown], names)
        for name, need, (world, ask) in shown:
            frame, cond = needs[need]
            fewer = without(left, name)
            self.assertIs(type(need), int)
            self.assertIs(judge_completion(book, *bare(book, frame), (world, ask)), True)
            self.assertIs(stands(book, world, ask, cond), True)
            self.assertNotEqual(answer(fewer, world, ask)[0], "let")
            self.assertEqual(answer(left, world, ask)[0], "let")
        return names

    def test_no_needs(self):
        self.assertEqual(self.found(LITTLE, ()), [])
        self.assertEqual(self.found(LITTLE, []), [])
        tree, shown = least_book(LITTLE, ())
        self.assertEqual((tree, shown), (tuple(line for line in LITTLE.tree if line[0] != "let"), ()))

    def test_one_need(self):
        self.assertEqual(self.found(LITTLE, ((FRAME, GILT),)), ["p1"])
        self.assertEqual(self.found(LITTLE, ((FRAME, ("and", SEES, INSIDE)),)), ["p1"])
        self.assertEqual(self.found(LITTLE, ((FRAME, ("and", GILT, ("not", SEES))),)), [])
        self.assertEqual(self.found(LITTLE, [(FRAME, ("not", ALWAYS))]), [])
        book = book_of(TEXT)
        late, one, all_of, inside = ("flag", "late"), ("walk", "one", "thing"), ("walk", "all", "thing"), ("flag", "inside")
        for frame, cond, names in ((FRAME, ("and", one, ("not", late)), (["p1"], ["p3"], ["p5"])), (FRAME, ("not", late), (["p5"],)), (FRAME, inside, (["p6"],)),
                                   (COPY, ("and", all_of, ("not", late)), (["p3"],)), (COPY, ("and", inside, ("not", late)), (["p4"],)),
                                   (COPY, ("and", ("walk", "two", "thing"), ("not", late)), (["p3"], ["p4"])), (FRAME, ("named", "dead"), ([],))):
            self.assertIn(self.found(book, ((frame, cond),)), names)

    def test_several_needs(self):
        book = book_of(TEXT)
        late, inside = ("flag", "late"), ("flag", "inside")
        needs = ((FRAME, ("not", late)), (COPY, ("and", ("walk", "two", "thing"), ("not", late))), (FRAME, inside), (COPY, ("and", inside, ("not", late))))
        self.assertEqual(self.found(book, needs), ["p4", "p5", "p6"])
        self.assertEqual(self.found(book, needs[::-1]), ["p4", "p5", "p6"])
        self.assertIn(self.found(book, needs[1:2] * 6), (["p3"], ["p4"]))

    def test_unmet(self):
        book = book_of(TEXT)
        met = (FRAME, ("flag", "inside"))
        for needs, at in ((((FRAME, ALWAYS),), 0), ((met, (FRAME, ALWAYS)), 1), ((met, met, (COPY, ("flag", "inside")), (FRAME, ALWAYS)), 2),
                          (((("clerk", "view", "paper"), ("flag", "late")), met), 0)):
            with self.assertRaises(Unmet) as caught:
                least_book(book, needs)
            self.assertEqual(caught.exception.need, at)
        with self.assertRaises(Unmet) as caught:
            least_book(LITTLE, (((("guest", "view", "paper")), ALWAYS),))
        self.assertEqual(caught.exception.need, 0)

    def test_the_order_of_errors(self):
        book = book_of(TEXT)
        cond = ("flag", "late")
        for gap in range(11):
            cond = ("and", cond, ("atmost", "now", "0", gap))
        bad, many, unmet, met = (FRAME, ("flag", "none")), (FRAME, cond), (FRAME, ALWAYS), (FRAME, ("flag", "inside"))
        for needs, error in (((bad, many, unmet), BadClaim), ((many, bad), TooMany), ((unmet, bad, many), Unmet), ((met, unmet, bad), Unmet), ((met, bad, unmet), BadClaim),
                             ((met, many, unmet), TooMany), ((("clerk", "view", "paper"), ("tag", "thing", "old")), BadClaim)):
            needs = (needs,) if isinstance(needs[0], tuple) and isinstance(needs[0][0], str) else needs
            with self.assertRaises(error):
                least_book(book, needs)
        with self.assertRaises(TooMany) as caught:
            least_book(book, (many,))
        self.assertEqual(caught.exception.part, "atom")
        self.assertIsInstance(caught.exception, LimitError)

    def test_what_only_a_large_world_shows(self):
        def walks(many):
            return ring_walk(37, (many % 37,)), ring_walk(38, [at for at in range(38) if at != many % 38])
        for many, is_large in ((390, False), (420, True)):
            lines = "".join(f"walk w{at} = {write_walk(part)} ;" for at, part in enumerate(walks(many)))
            book = Book(read(RINGS + "flag f ;" + lines + "let p rank 1 clerk may view on paper when by w0 to thing and not by w1 to thing or ask is f ;"))
            need = (FRAME, ("and", ("walk", "w0", "thing"), ("not", ("walk", "w1", "thing"))))
            self.assertEqual(self.found(book, (need, (FRAME, ("flag", "f"))) if is_large else (need,)), ["p"])
            if is_large:
                with self.assertRaises(TooMany) as caught:
                    least_book(book, (need,))
                self.assertEqual(caught.exception.part, "node")

    def test_by_chance(self):
        chance = random.Random(271)
        many = left = 0
        for turn in range(60):
            book = book_by_chance(chance)
            lets = [line for line in book.tree if line[0] == "let"]
            atoms = (*book.atoms(FRAME), ("flag", "inside"))
            needs = tuple((chance.choice((FRAME, COPY)), by_chance.fitting_cond(chance, 3, atoms, ())) for _ in range(4))
            needs = tuple(need for need in needs if claimed((book,), need[0], ("if", need[1]))[0] == "holds")
            many += len(lets)
            left += len(self.found(book, needs))
        self.assertTrue(5 < left < many - 20, (left, many))


if __name__ == "__main__":
    unittest.main()
