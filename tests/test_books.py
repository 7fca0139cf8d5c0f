"""Books that are let, and their frames and atoms [13], [14]."""

import unittest

from leaveledger.books import Book
from leaveledger.errors import BadTree, NotLet
from leaveledger.flatten import flat
from leaveledger.reading import read
from tests.plainfaults import PlainFaults
from tests.samples import EXAMPLE, TOWN

IN = ("step", "in", ())
KEEPS = ("step", "keeps", ())
SEES = ("walk", ("then", ("star", IN), KEEPS), "thing")
INSIDE = ("flag", "inside")
PLAN = """\
asker clerk guest ;
group team ;
thing paper memo ;
flag inside late ;
action view copy ;
tie in from clerk guest team to team ;
tie keeps from clerk team to paper ;
walk sees = in* keeps ;
when calm = ask is inside and by sees to thing ;
role both = copy view ;
"""


class BooksTest(unittest.TestCase):
    def test_what_is_kept(self):
        tree = read(EXAMPLE)
        book = Book(tree)
        self.assertEqual(book.tree, tree)
        self.assertEqual(book.flattened, flat(tree))
        self.assertEqual(book.plan, tree[:11])
        self.assertEqual(book.frames, (("clerk", "view", "paper"),))
        self.assertEqual(book.policies(book.frames[0]), ("p1", "p2"))
        gilt = ("then", ("then", ("then", ("star", IN), ("step", "in", (("gold", True),))), ("star", IN)), KEEPS)
        self.assertEqual(book.atoms(book.frames[0]), (SEES, INSIDE, ("walk", gilt, "thing")))

    def test_plan(self):
        tree = read(PLAN + "gate in by view on k; never in [] to []; let p rank 1 clerk may view on memo when always; duty d;")
        self.assertEqual(Book(tree).plan, (*tree[:7], tree[11], tree[13]))

    def test_empty(self):
        book = Book(())
        self.assertEqual((book.tree, book.flattened, book.plan, book.frames), ((), (), (), ()))
        self.assertEqual(book.atoms(("a", "b", "c")), ())
        self.assertEqual(book.policies(("a", "b", "c")), ())

    def test_not_let(self):
        for text, fault in (("asker a; asker a;", (1, ("twice", "a"))), ("tag t on x y; asker t;", (0, ("unknown", "x"))),
                            ("flag f; walk w = f;", (1, ("wrong", "f")))):
            with self.assertRaises(NotLet) as caught:
                Book(read(text))
            self.assertEqual(caught.exception.fault, fault)

    def test_not_let_with_the_first_fault(self):
        lines = ["asker a b", "thing b c a", "tag t on d e", "number n on a", "when w = asker is n or thing.t <= 0"]
        mended = ["asker a b", "thing c", "tag t on a", "number n on a", "when w = always"]
        found = []
        for _ in lines:
            with self.assertRaises(NotLet) as caught:
                Book(read(";".join([*lines, ""])))
            found.append(caught.exception.fault)
            at = caught.exception.fault[0]
            lines[at] = mended[at]
            if lines == mended:
                break
        self.assertEqual(found, [(1, ("twice", "b")), (2, ("unknown", "d")), (4, ("wrong", "n"))])
        self.assertEqual(Book(read(";".join([*lines, ""]))).frames, ())

    def test_faults_of_policies_are_told(self):
        for cond, fault in (("thing is gold", ("unfit", "gold")), ("asker is none", ("unknown", "none")),
                            (" and ".join([f"ask.sum <= {at}" for at in range(9)]).replace("<= ", "<= now + "), ("many", "p"))):
            with self.assertRaises(NotLet) as caught:
                Book(read(f"asker a; thing t; tag gold on a; asked sum; action go; let p rank 1 a may go on t when {cond};"))
            self.assertEqual(caught.exception.fault, (5, fault))

    def test_bad_tree(self):
        for tree in (None, [], "", (None,), (("asker", ("a", "a")), ("asker", ("a",))), (("asker", ["a"]),), 3):
            with self.assertRaises(BadTree):
                Book(tree)

    def test_what_is_left_out_of_the_plan(self):
        tree = read(TOWN)
        book = Book(tree)
        self.assertEqual(book.plan, (*tree[:20], tree[28]))
        self.assertEqual(tuple(line for line in book.flattened if line[0] not in ("let", "bar")), book.plan)
        self.assertEqual([line[:4] for line in book.flattened[21:]], [line[:4] for line in tree[29:]])

    def test_against_the_plain_meaning(self):
        for text in (TOWN, EXAMPLE):
            tree = read(text)
            book, plain = Book(tree), PlainFaults(tree)
            policies = [line for line in tree if line[0] in ("let", "bar")]
            frames = []
            for line in policies:
                actions = [action for word in line[4] for action in (plain.line_of(word[1:])[2] if "@" in word else [word])]
                frames += [(asker, action, thing) for asker in line[3] for action in actions for thing in line[5]]
            self.assertEqual(book.frames, tuple(dict.fromkeys(frames)))
            for frame in book.frames:
                lines = [line for line in policies if frame in plain.frames(line)]
                atoms = [leaf for line in lines for leaf in plain.leaves(plain.cond_out(line[6])) if leaf != ("always",)]
                self.assertEqual(book.policies(frame), tuple(line[1] for line in lines))
                self.assertEqual(book.atoms(frame), tuple(dict.fromkeys(atoms)))

    def test_frames_in_order(self):
        book = Book(read(PLAN + "let p rank 1 guest clerk may copy on memo paper when always; "
                                "bar q rank 1 clerk may @both on paper when always;"))
        self.assertEqual(book.frames, (
            ("guest", "copy", "memo"), ("guest", "copy", "paper"), ("clerk", "copy", "memo"), ("clerk", "copy", "paper"),
            ("clerk", "view", "paper"),
        ))
        self.assertEqual(book.policies(("clerk", "copy", "paper")), ("p", "q"))
        self.assertEqual(book.policies(("clerk", "view", "paper")), ("q",))
        self.assertEqual(book.policies(("guest", "view", "paper")), ())

    def test_atoms(self):
        book = Book(read(PLAN + "let p rank 1 clerk may view on paper when always or not (@calm or ask is late and ask is "
                                "inside); let q rank 2 clerk guest may view on paper when now <= 0 or ask is late; "
                                "let r rank 2 clerk may view on paper when always;"))
        late, now = ("flag", "late"), ("atmost", "now", "0", 0)
        self.assertEqual(book.atoms(("clerk", "view", "paper")), (INSIDE, SEES, late, now))
        self.assertEqual(book.atoms(("guest", "view", "paper")), (now, late))
        self.assertEqual(book.atoms(("guest", "copy", "paper")), ())

    def test_written(self):
        book = Book(read(PLAN))
        maybe = ("maybe", SEES[1])
        self.assertEqual(book.written(("upto", ("named", "sees"), 2)), ("then", maybe, maybe))
        self.assertEqual(book.written(("table", (), 0)), ("table", (), 0))
        self.assertEqual(book.written_cond(("not", ("named", "calm"))), ("not", ("and", INSIDE, SEES)))
        self.assertEqual(book.written_cond(("walk", "sees", "thing")), SEES)
        self.assertEqual(book.written_cond(("walk", ("named", "sees"), "thing")), SEES)
        self.assertEqual(book.written_cond(("walk", ("upto", IN, 1), "thing")), ("walk", ("maybe", IN), "thing"))


if __name__ == "__main__":
    unittest.main()
