"""Policies with the widest table in the place of their walk [48], with [25] and [45]."""

import random
import unittest

from leaveledger.books import Book
from leaveledger.claims import claimed
from leaveledger.combine import combined, table_of
from leaveledger.errors import BadClaim, BadTree, LimitError, NotLet, TooLarge, TooMany, Unmet
from leaveledger.faults import faults
from leaveledger.languages import Language
from leaveledger.machines import machine, takes
from leaveledger.narrowing import narrowed
from leaveledger.reading import read
from leaveledger.writing import write_walk
from tests import chance as by_chance
from tests.plain import all_words
from tests.samples import EXAMPLE, RINGS
from tests.test_claims import COPY, FRAME, PLAN, book_by_chance, book_of
from tests.test_realizing import ring_walk

WALKS = """walk one = in keeps ; walk two = in in keeps ; walk all = in* keeps ; walk gilt = in* in[gold] in* keeps ; walk some = in+ keeps ;
    when night = ask is late ; role both = copy view ; """
BOOK = book_of(WALKS + """bar p0 rank 9 clerk may view on paper when ask is late and by two to thing ;
    let p1 rank 5 clerk may @both on paper when by all to thing due log ;
    let p2 rank 5 clerk may view on paper when by one to thing and asker is old ;""")
LITTLE = Book(read(EXAMPLE))
GILT, ONE, ALL = ("walk", "gilt", "thing"), ("walk", "one", "thing"), ("walk", "all", "thing")
LATE = ("flag", "late")


def walk_with(book, walks):
    """A walk with the words of several ones."""
    combination = ("of", walks[0])
    for other in walks[1:]:
        combination = ("either", combination, ("of", other))
    return table_of(combined(book, "clerk", combination, "paper"))


class NarrowedTest(unittest.TestCase):
    def found(self, book, policy, cond, frame=FRAME, name="thin"):
        """The table, with all that must be so of the tree that is returned."""
        tree = narrowed(book, frame, policy, cond, name)
        self.assertEqual(faults(tree), ())
        at = [place for place, line in enumerate(book.tree) if line[0] == "let" and line[1] == policy][0]
        old = book.tree[at]
        path = old[6][1] if old[6][0] == "and" else old[6]
        new = ("walk", name, "thing")
        changed = (*old[:6], ("and", new, old[6][2]) if old[6][0] == "and" else new, old[7])
        self.assertEqual(tree[:at] + tree[at + 1:], book.tree[:at] + (changed,) + book.tree[at + 1:])
        word, line_name, table = tree[at]
        self.assertEqual((word, line_name, table[0]), ("walk", name, "table"))
        left = Book(tree)
        self.assertEqual(claimed((left,), frame, ("only", cond))[0], "holds")
        self.assertEqual(table, table_of(machine(left, frame[0], table, frame[2])))
        wide = Language(book, frame[0], ("named", path[1]), frame[2])
        self.assertTrue(Language(book, frame[0], table, frame[2]).inside(wide))
        self.check_widest(book, tree, at, cond, frame, wide.least, table)
        return table

    def check_widest(self, book, tree, at, cond, frame, wide, table):
        """No word of the walk can be put to the table without breaking the claim."""
        least = machine(book, frame[0], table, frame[2])
        beyond = [word for word in all_words(book, frame[0], frame[2], 4) if takes(wide, word) and not takes(least, word)]
        for word in beyond[:6] + beyond[-6:]:
            moves = tuple((place, letter, place + 1) for place, letter in enumerate(word))
            walk = walk_with(book, [table, ("table", moves, len(word))])
            more = Book((*[line for line in book.plan], *[line for line in tree[:at] if line not in book.plan], ("walk", tree[at][1], walk), *tree[at + 1:]))
            self.assertEqual(claimed((more,), frame, ("only", cond))[0], "broken", word)

    def same(self, table, text, book=BOOK):
        """That a table has the words of a walk."""
        expected = machine(book, "clerk", read(f"walk w = {text} ;")[0][2], "paper")
        self.assertEqual(machine(book, "clerk", table, "paper"), expected, text)

    def test_some(self):
        self.same(self.found(BOOK, "p1", ("or", GILT, ("and", ONE, ("tag", "asker", "old")))), "in* in[gold] in* keeps")
        self.same(self.found(BOOK, "p1", ("or", ALL, ONE)), "in* keeps")
        self.same(self.found(BOOK, "p1", ("always",)), "in* keeps")
        self.same(self.found(BOOK, "p1", ("or", GILT, ONE)), "in* in[gold] in* keeps | in keeps")
        self.same(self.found(BOOK, "p1", ("or", ("and", ("named", "night"), ("walk", "two", "thing")), ("or", ONE, ("walk", "two", "boss")))), "in keeps")
        self.same(self.found(BOOK, "p1", ("or", ("not", LATE), ONE)), "in in keeps | in keeps")
        self.same(self.found(BOOK, "p2", ("or", ALL, LATE)), "in keeps")

    def test_nothing_left(self):
        self.same(self.found(BOOK, "p2", ("or", ALL, GILT), name="x"), "in keeps")
        table = self.found(BOOK, "p1", ("tag", "asker", "old"))
        self.assertEqual(table, ("table", (), None))
        self.assertEqual(self.found(BOOK, "p1", ("and", ONE, ("tag", "asker", "old"))), ("table", (), None))

    def test_other_frames(self):
        self.same(self.found(BOOK, "p1", ("or", ONE, ("walk", "some", "thing")), COPY), "in+ keeps")
        self.assertEqual(self.found(BOOK, "p1", LATE, COPY), ("table", (), None))
        self.same(self.found(BOOK, "p1", ("not", ("walk", "some", "boss")), COPY), "table final -")

    def test_conditions_behind_the_walk(self):
        book = book_of(WALKS + """let p1 rank 5 clerk may view on paper when by all to thing and (not by one to thing or ask is late) ;
            bar p2 rank 5 clerk may view on paper when by two to thing and not ask is late ;""")
        self.same(self.found(book, "p1", LATE), "in keeps | in in keeps")
        self.same(self.found(book, "p1", ("or", LATE, GILT)), "in in keeps | in keeps | in* in[gold] in* keeps")
        book = book_of(WALKS + "let p1 rank 5 clerk may view on paper when by all to thing and by two to thing ;")
        self.same(self.found(book, "p1", ("walk", "two", "thing")), "in* keeps")
        self.same(self.found(book, "p1", ONE), "in keeps")
        book = book_of(WALKS + "let p1 rank 5 clerk may view on paper when by all to thing and asker.level <= now - 2 ;")
        self.same(self.found(book, "p1", ("not", ("atmost", "now", "asker.level", 1))), "in* keeps")
        self.same(self.found(book, "p1", ("or", ONE, ("not", ("atmost", "now", "asker.level", 2)))), "in keeps")

    def test_example(self):
        self.same(self.found(LITTLE, "p1", ("or", GILT, ("flag", "inside"))), "in* keeps", LITTLE)
        self.same(self.found(LITTLE, "p1", GILT), "in* in[gold] in* keeps", LITTLE)
        self.same(self.found(LITTLE, "p1", ("and", GILT, ("walk", "sees", "thing"))), "in* in[gold] in* keeps", LITTLE)
        self.assertEqual(self.found(LITTLE, "p1", ("walk", "sees", "auditor")), ("table", (), None))

    def test_a_table_as_walk(self):
        book = book_of("walk w = table 0 in team [] 0 | 0 keeps paper [] 1 | 0 in team [gold] 2 | 2 keeps paper [] 1 final 1 ; walk one = in? keeps ;"
                       "let p rank 5 clerk may view on paper when by w to thing ;")
        self.same(self.found(book, "p", ("always",)), "@w", book)
        self.same(self.found(book, "p", ONE), "table 0 keeps paper [] 1 | 0 in team [] 2 | 0 in team [gold] 2 | 2 keeps paper [] 1 final 1", book)

    def test_names_that_are_not_as_they_must_be(self):
        for cond in (("flag", "none"), ("walk", "none", "thing"), ("walk", "night", "thing"), ("tag", "thing", "old"), ("tag", "asker", "gold"), ("named", "p1"),
                     ("atmost", "asker.none", "0", 0)):
            with self.assertRaises(BadClaim):
                narrowed(BOOK, FRAME, "p1", cond, "thin")

    def test_policies_of_another_form(self):
        book = book_of(WALKS + """let a rank 5 clerk may view on paper when by all to boss ; let b rank 5 clerk may view on paper when always ;
            let c rank 5 clerk may view on paper when ask is late and by all to thing ; let d rank 5 clerk may view on paper when by all to thing or ask is late ;
            let e rank 5 clerk may view on paper when not by all to thing ; bar f rank 5 clerk may view on paper when by all to thing ;
            let g rank 5 clerk may copy on paper when by all to thing ; let h rank 5 clerk may view on paper when by all to boss and by all to thing ;
            let i rank 5 clerk may view on paper when (by all to thing and ask is late) and ask is inside ; when k = by all to thing ;
            let j rank 5 clerk may view on paper when @k ;""")
        for policy in ("a", "b", "c", "d", "e", "f", "g", "h", "i", "j", "k", "none", "all", "log"):
            with self.assertRaises(BadClaim):
                narrowed(book, FRAME, policy, LATE, "thin")
        kinds = Book(read(PLAN.replace("asker clerk ;", "asker clerk guest ;").replace("thing paper ;", "thing paper memo ;") + WALKS
                          + """let a rank 5 clerk guest may view on paper when by all to thing ; let b rank 5 clerk may view on paper memo when by all to thing ;
                               let c rank 5 guest may view on paper when by all to thing ; let d rank 5 clerk may view on memo when by all to thing ;"""))
        for policy in ("a", "b", "c", "d"):
            with self.assertRaises(BadClaim):
                narrowed(kinds, FRAME, policy, LATE, "thin")

    def test_a_name_that_is_used(self):
        for name, fault in (("all", ("twice", "all")), ("gold", ("twice", "gold")), ("p0", ("twice", "p0")), ("night", ("twice", "night")), ("paper", ("twice", "paper"))):
            with self.assertRaises(NotLet) as caught:
                narrowed(BOOK, FRAME, "p1", GILT, name)
            self.assertEqual(caught.exception.fault, (BOOK.tree.index([line for line in BOOK.tree if line[:2] == ("let", "p1")][0]), fault))
        # The later line has the fault, also if it is that of the name.
        with self.assertRaises(NotLet) as caught:
            narrowed(BOOK, FRAME, "p1", GILT, "p2")
        self.assertEqual(caught.exception.fault, (len(BOOK.tree), ("twice", "p2")))
        with self.assertRaises(NotLet) as caught:
            narrowed(BOOK, FRAME, "p1", GILT, "p1")
        self.assertEqual(caught.exception.fault[1], ("twice", "p1"))

    def test_too_many_atoms_for_a_let_tree(self):
        """The table is an atom more where the policy's walk is left in another policy."""
        flags = " or ".join(f"now <= 0 + {gap}" for gap in range(1, 8))
        book = book_of(WALKS + f"let p1 rank 5 clerk may view on paper when by all to thing ; let p2 rank 5 clerk may view on paper when by all to thing and ({flags}) ;")
        with self.assertRaises(NotLet) as caught:
            narrowed(book, FRAME, "p1", ONE, "thin")
        self.assertEqual(caught.exception.fault[1], ("many", "p2"))

    def test_lines(self):
        rest = tuple(("role", f"r{at}", ("view",)) for at in range(59 - len(BOOK.tree)))
        book = Book((*BOOK.tree, *rest))
        self.assertEqual(len(book.tree), 59)
        self.assertEqual(len(narrowed(book, FRAME, "p1", ("or", GILT, ONE), "thin")), 60)
        full = Book((*book.tree, ("role", "rr", ("view",))))
        for name in ("thin", "all"):
            with self.assertRaises(BadTree):
                narrowed(full, FRAME, "p1", ("or", GILT, ONE), name)
        with self.assertRaises(BadClaim):
            narrowed(full, FRAME, "p0", ("or", GILT, ONE), "thin")

    def test_the_order_of_errors(self):
        full = Book((*BOOK.tree, *[("role", f"r{at}", ("view",)) for at in range(60 - len(BOOK.tree))]))
        bad, unmet, good = ("flag", "none"), GILT, ("or", GILT, ONE)
        for book, policy, cond, name, error in ((full, "p1", bad, "all", BadClaim), (full, "p0", good, "all", BadClaim), (full, "p1", unmet, "all", BadTree), (BOOK, "p1", bad, "all", BadClaim),
                                                (BOOK, "p0", good, "all", BadClaim), (BOOK, "p1", unmet, "all", NotLet), (BOOK, "p1", unmet, "thin", Unmet)):
            with self.assertRaises(error):
                narrowed(book, FRAME, policy, cond, name)

    def test_too_many_atoms(self):
        def cond(many):
            found = ("not", LATE)
            for gap in range(many):
                found = ("or", found, ("atmost", "now", "0", gap + 1))
            return found
        # The frame has the flag, two, one, old and the table; the condition seven and five more.
        for many in (6, 9):
            with self.assertRaises(TooMany) as caught:
                narrowed(BOOK, FRAME, "p1", cond(many), "thin")
            self.assertEqual(caught.exception.part, "atom")
            self.assertIsInstance(caught.exception, LimitError)
        with self.assertRaises(Unmet):
            narrowed(BOOK, FRAME, "p1", cond(5), "thin")
        with self.assertRaises(NotLet):
            narrowed(BOOK, FRAME, "p1", cond(6), "all")

    def test_unmet(self):
        for cond in (GILT, ("not", ALL), ("walk", "two", "thing"), LATE, ("not", ("always",))):
            with self.assertRaises(Unmet) as caught:
                narrowed(BOOK, FRAME, "p1", cond, "thin")
            self.assertEqual(caught.exception.need, 0)

    def test_too_large(self):
        def book_with(size, other):
            lines = f"walk w = {write_walk(ring_walk(size, (1,)))} ; walk v = {write_walk(ring_walk(other, (2,)))} ;"
            return Book(read(RINGS + lines + "let p rank 1 clerk may view on paper when by w to thing ;"))
        book = book_with(5, 7)
        table = narrowed(book, FRAME, "p", ("walk", "v", "thing"), "thin")[-2][2]
        self.assertEqual(len({place for place, _, _ in table[1]}), 35)
        for size, other in ((5, 8), (6, 7), (13, 17)):
            with self.assertRaises(TooLarge) as caught:
                narrowed(book_with(size, other), FRAME, "p", ("walk", "v", "thing"), "thin")
            self.assertEqual(caught.exception.part, "table")
            self.assertIsInstance(caught.exception, LimitError)

    def test_names_that_are_declared_further_down(self):
        plan = PLAN.replace("tie keeps from clerk team box to paper boss ;\n", "")
        text = plan + "walk w = any* ; let p rank 1 clerk may view on paper when by w to thing ; tie keeps from clerk team box to paper boss ; walk one = in keeps ;"
        book = Book(read(text))
        at = len(read(plan)) + 1
        for cond in (("always",), ("walk", "one", "thing")):
            with self.assertRaises(NotLet) as caught:
                narrowed(book, FRAME, "p", cond, "thin")
            self.assertEqual(caught.exception.fault, (at, ("unknown", "keeps")))
        # A table without moves uses no names.
        self.assertEqual(narrowed(book, FRAME, "p", ("flag", "late"), "thin")[at], ("walk", "thin", ("table", (), None)))
        tags = PLAN.replace("tag gold on team ;\n", "").replace("never in [gold] to [gold] ;\n", "")
        book = Book(read(tags + "walk w = in keeps ; let p rank 1 clerk may view on paper when by w to thing ; tag gold on team ;"))
        with self.assertRaises(NotLet) as caught:
            narrowed(book, FRAME, "p", ("always",), "thin")
        self.assertEqual(caught.exception.fault, (len(read(tags)) + 1, ("unknown", "gold")))

    def test_no_large_world_is_needed(self):
        """Whether a claim holds is told also where only worlds with more than 400 nodes break it."""
        walks = [write_walk(part) for part in (ring_walk(37, (20,)), ring_walk(38, [at for at in range(38) if at != 30]))]
        book = Book(read(RINGS + f"walk w0 = {walks[0]} ; walk w1 = {walks[1]} ; walk none = table final - ;"
                         "let p rank 1 clerk may view on paper when by none to thing ; let q rank 1 clerk may view on paper when by w0 to thing and not by w1 to thing ;"))
        with self.assertRaises(TooMany):
            claimed((book,), FRAME, ("only", ("walk", "none", "thing")))
        with self.assertRaises(Unmet):
            narrowed(book, FRAME, "p", ("walk", "none", "thing"), "thin")

    def test_by_chance(self):
        chance = random.Random(281)
        seen = {}
        for turn in range(250):
            book = book_by_chance(chance)
            if turn % 3:
                book = Book(tuple(line for line in book.tree if line[0] != "let"))
            walk = chance.choice(("w0", "w1", "w2", "deep"))
            rest = by_chance.fitting_cond(chance, 2, (LATE, ("walk", "w1", "thing"), ("walk", "w0", "thing"), ("always",)), ())
            cond = ("walk", walk, "thing") if chance.random() < 0.5 else ("and", ("walk", walk, "thing"), rest)
            line = ("let", "q", chance.randint(1, 2), ("clerk",), ("view",), ("paper",), cond, ())
            tree = (*book.tree, line)
            if faults(tree):
                continue
            book = Book(tree)
            only = by_chance.fitting_cond(chance, 3, (*book.atoms(FRAME), ("walk", "w2", "thing")), ())
            if turn % 2:
                only = ("or", ("walk", chance.choice(("w0", "w1", "w2", "deep")), "thing"), by_chance.fitting_cond(chance, 2, (("walk", "w1", "thing"), LATE), ()))
            try:
                table = self.found(book, "q", only)
                is_whole = Language(book, "clerk", ("named", walk), "paper").inside(Language(book, "clerk", table, "paper"))
                word = "empty" if table[2] is None else "whole" if is_whole else "part"
            except (Unmet, TooMany, TooLarge) as error:
                word = error.__class__.__name__
            except NotLet as error:
                word = error.fault[1][0]
            seen[word] = seen.get(word, 0) + 1
        self.assertTrue(all(seen.get(word, 0) > 8 for word in ("empty", "whole", "part", "Unmet")), seen)


if __name__ == "__main__":
    unittest.main()
