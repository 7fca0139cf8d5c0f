"""Claims for all worlds, held and broken [44], [45]."""

import itertools
import random
import unittest

from leaveledger.answers import answer, stands
from leaveledger.books import Book
from leaveledger.claimjudge import judge_claim
from leaveledger.claims import claimed
from leaveledger.errors import BadClaim, LimitError, TooMany, Unlike
from leaveledger.faults import faults
from leaveledger.reading import read
from leaveledger.shortest import shortest
from leaveledger.sights import bare, judge_completion
from leaveledger.writing import write_walk
from tests import chance as by_chance
from tests.plain import Plain, all_words
from tests.plainpapers import breaks, claim_atoms, takes_claim
from tests.plainworlds import least_worths
from tests.samples import EXAMPLE, REALM, RINGS
from tests.test_realizing import BOOK, atom_by_chance, by, ring_walk

LITTLE = Book(read(EXAMPLE))
FRAME = ("clerk", "view", "paper")
COPY = ("clerk", "copy", "paper")
SEES, GILT, INSIDE = ("walk", "sees", "thing"), ("walk", "gilt", "thing"), ("flag", "inside")
PLAN = REALM.split("walk deep")[0] + "".join(
    row + "\n" for row in REALM.split("\n") if row.startswith(("tag fine", "tag old", "number", "flag", "asked", "action", "duty")))
WORDS = {end: all_words(BOOK, "clerk", end, 4) for end in ("paper", "boss")}


def book_of(text):
    """A book of the realm's plan with other lines behind it."""
    return Book(read(PLAN + text))


def walking(book, atoms, world, ask):
    """The sum of the steps of the shortest paths of the atoms about walks that stand."""
    paths = [shortest(book, world, atom[1], ask[0], ask[2] if atom[2] == "thing" else atom[2]) for atom in atoms if atom[0] == "walk"]
    return sum(len(path) for path in paths if path is not None)


def least_walking(books, frame, claim):
    """The least walking of truths that break a claim, as far as paths of four steps go; None if there are none."""
    atoms = claim_atoms(books, frame, claim)
    plain, (sight, ask) = Plain(books[0].tree), bare(books[0], frame)
    goals = {at: "boss" if atom[2] == "boss" else "paper" for at, atom in enumerate(atoms) if atom[0] == "walk"}
    read_by = {goal: [({at for at, end in goals.items() if end == goal and plain.has_word(atoms[at][1], word)}, len(word)) for word in words]
               for goal, words in WORDS.items()}
    found = []
    for valuation in itertools.product((False, True), repeat=len(atoms)):
        if breaks(books, frame, claim, atoms, valuation):
            steps = [fewest(read_by[goal], at, {other for other in goals if goals[other] == goal and not valuation[other]})
                     for at, goal in goals.items() if valuation[at]]
            if None not in steps and least_worths(books[0], sight, ask, list(zip(atoms, valuation))) is not None:
                found.append(sum(steps))
    return min(found) if found else None


def fewest(words, at, rivals):
    return min([steps for readers, steps in words if at in readers and not readers & rivals], default=None)


def check_claim(case, books, frame, claim):
    """What is returned, with all that must be so of it."""
    found = claimed(books, frame, claim)
    case.assertEqual(len(found), 2)
    if found[0] == "holds":
        case.assertIs(judge_claim(books, frame, claim, found[1]), True)
        case.assertIs(takes_claim(books, frame, claim, found[1]), True)
        return found
    case.assertEqual(found[0], "broken")
    world, ask = found[1]
    case.assertIs(judge_completion(books[0], *bare(books[0], frame), (world, ask)), True)
    atoms = claim_atoms(books, frame, claim)
    plains = [Plain(book.tree) for book in books]
    valuation = tuple(plains[0].stands(world, ask, atom) for atom in atoms)
    case.assertIs(breaks(books, frame, claim, atoms, valuation), True)
    for plain, book in zip(plains, books):
        case.assertEqual(plain.answer(world, ask), answer(book, world, ask))
    return found


class ClaimsTest(unittest.TestCase):
    def holds(self, claim, truth, books=(LITTLE,), frame=FRAME):
        word, found = check_claim(self, books, frame, claim)
        self.assertEqual(word, "holds" if truth else "broken", claim)
        return found

    def test_example(self):
        self.holds(("only", ("or", GILT, INSIDE)), True)
        world, ask = self.holds(("only", GILT), False)
        self.assertEqual(world, ((("zz0", "clerk", ()), ("zz1", "paper", ())), (("zz0", "keeps", "zz1"),), ()))
        self.assertEqual(ask, ("zz0", "view", "zz1", (True,), (), 0))
        self.assertEqual(walking(LITTLE, claim_atoms((LITTLE,), FRAME, ("only", GILT)), world, ask), 1)

    def test_never(self):
        self.holds(("never",), False)
        self.holds(("never",), True, frame=("clerk", "edit", "paper"))
        self.holds(("never",), True, frame=("guest", "view", "paper"))
        self.holds(("never",), True, (book_of("walk w = in[gold] in[gold] keeps ; let p rank 1 clerk may view on paper when by w to thing ;"),))
        self.holds(("never",), True, (book_of("let p rank 1 clerk may view on paper when now <= now - 1 ;"),))
        self.holds(("never",), False, (book_of("let p rank 1 clerk may view on paper when now <= now ;"),))
        self.holds(("never",), True, (book_of("let p rank 1 clerk may view on paper when always ; bar q rank 1 clerk may view on paper when always ;"),))

    def test_only_and_if(self):
        for cond, only, whether in ((("always",), True, False), (("not", ("always",)), False, True), (SEES, True, False), (GILT, False, True), (INSIDE, False, False),
                                    (("and", SEES, INSIDE), False, True), (("and", SEES, GILT), False, True), (("or", GILT, INSIDE), True, False),
                                    (("and", SEES, ("or", GILT, INSIDE)), True, True), (("walk", "sees", "auditor"), False, True),
                                    (("and", GILT, ("not", SEES)), False, True), (("atmost", "now", "0", 9), False, False), (("atmost", "0", "now", -1), False, False)):
            self.holds(("only", cond), only)
            self.holds(("if", cond), whether)

    def test_frames_without_policies(self):
        for frame in (("guest", "view", "paper"), ("clerk", "edit", "paper")):
            for claim, truth in ((("never",), True), (("only", GILT), True), (("if", GILT), False), (("if", ("and", GILT, ("not", SEES))), True), (("dead", "p1"), True),
                                 (("dead", "p2"), True), (("brings", "log"), True)):
                self.holds(claim, truth, frame=frame)
        self.holds(("within",), True, (LITTLE, LITTLE), ("guest", "view", "paper"))
        self.holds(("alike",), True, (LITTLE, LITTLE), ("guest", "view", "paper"))

    def test_dead(self):
        self.holds(("dead", "p1"), False)
        self.holds(("dead", "p2"), False)
        book = book_of("""walk in1 = in keeps ; walk all = in* keeps ;
            let p1 rank 5 clerk may view on paper when by in1 to thing ; let p2 rank 5 clerk may view copy on paper when by all to thing ;
            bar p3 rank 4 clerk may view on paper when always ; bar p4 rank 6 clerk may view on paper when ask.amount <= 0 + 3 and not ask.amount <= 0 + 4 ;
            let p5 rank 4 clerk may copy on paper when always ; bar p6 rank 5 clerk may view on paper when by in1 to thing and ask is late ;""")
        for name, frame, truth in (("p1", FRAME, True), ("p2", FRAME, False), ("p3", FRAME, True), ("p4", FRAME, True), ("p5", FRAME, True), ("p6", FRAME, False),
                                   ("p2", COPY, True), ("p5", COPY, False), ("p1", COPY, True)):
            self.holds(("dead", name), truth, (book,), frame)

    def test_brings(self):
        self.holds(("brings", "log"), True)
        book = book_of("""let p1 rank 5 clerk may view on paper when ask is inside due log ; let p2 rank 5 clerk may view on paper when ask is late due tell log ;
            let p3 rank 7 clerk may view on paper when ask is late and ask is inside due tell ; bar p4 rank 7 clerk may view on paper when asker is old ;""")
        self.holds(("brings", "log"), False, (book,))
        self.holds(("brings", "tell"), False, (book,))
        more = Book((*book.tree, ("bar", "p5", 8, ("clerk",), ("view",), ("paper",), ("and", ("flag", "inside"), ("flag", "late")), ())))
        self.holds(("brings", "log"), True, (more,))
        self.holds(("brings", "tell"), False, (more,))

        self.holds(("brings", "log"), False, (book_of("let p rank 1 clerk may view on paper when always due tell ;"),))
        self.holds(("brings", "tell"), True, (book_of("let p rank 1 clerk may view on paper when always due log tell ;"),))

    def test_several_rivals_in_any_order(self):
        """A paper has its rivals in the order of the part, whichever is needed first."""
        for names in (("gilt", "plain"), ("plain", "gilt")):
            book = book_of(f"""walk one = in keeps ; walk gilt = in[gold] keeps ; walk plain = in[-gold] keeps ;
                let p rank 1 clerk may view on paper when by one to thing and not by {names[0]} to thing and not by {names[1]} to thing ;""")
            self.assertEqual([part for part, _ in self.holds(("never",), True, (book,))], [((0, True), (1, False), (2, False))])

    def test_two_books(self):
        first = book_of("walk w = in keeps ; let p rank 1 clerk may view on paper when by w to thing ;")
        second = book_of("walk w = in? keeps ; role r = copy view ; let q rank 3 clerk may @r on paper when by w to thing ;")
        third = book_of("walk x = in* keeps ; let q rank 9 clerk may view on paper when by x to thing ; bar r rank 9 clerk may view on paper when ask is late ;")
        for books, within, alike in (((first, second), True, False), ((second, first), False, False), ((first, first), True, True), ((second, third), False, False),
                                     ((first, Book(first.tree)), True, True), ((third, second), False, False)):
            self.holds(("within",), within, books)
            self.holds(("alike",), alike, books)
        self.holds(("within",), True, (first, second), COPY)
        self.holds(("alike",), False, (first, second), COPY)
        self.holds(("alike",), False, (second, first), COPY)
        self.holds(("within",), False, (second, first), COPY)

    def test_two_books_whose_walks_have_one_language(self):
        first = book_of("walk w = in in* keeps ; let p rank 1 clerk may view on paper when by w to thing or by w to boss ;")
        second = book_of("walk w = in+ keeps ; let p rank 2 clerk may view on paper when by w to boss ; let q rank 3 clerk may view on paper when by w to thing ;")
        for books in ((first, second), (second, first)):
            self.holds(("within",), True, books)
            self.holds(("alike",), True, books)

    def test_other_claims_with_two_books(self):
        """They are about the first book; the second one has atoms, too."""
        first = book_of("walk w = in keeps ; let p rank 1 clerk may view on paper when by w to thing due log ;")
        second = book_of("walk w = in? keeps ; let q rank 1 clerk may view on paper when by w to thing and ask is late ;")
        for claim, truth in ((("never",), False), (("only", ("walk", "w", "thing")), True), (("if", ("walk", "w", "thing")), True), (("dead", "p"), False), (("brings", "log"), True)):
            self.holds(claim, truth, (first, second))
            self.holds(claim, truth, [first, second])
        world, ask = self.holds(("never",), False, (first, second))
        self.assertEqual(walking(first, claim_atoms((first, second), FRAME, ("never",)), world, ask), 3)
        with self.assertRaises(BadClaim):
            claimed((first, second), FRAME, ("dead", "q"))

    def test_the_least_walking(self):
        for text, steps in (("by in1 to thing or by in2 to thing and by keep to boss", 2), ("by in2 to thing and not by in1 to thing", 3), ("by in1 to thing and by keep to thing", 3),
                            ("not by in1 to thing", 0), ("by in1 to thing and by in1 to boss", 4), ("by all to thing and not by keep to thing and not by in1 to boss", 2),
                            ("by in3 to boss or by keep to thing and by keep to boss and by all to thing", 3),
                            ("by in2 to boss or by keep to thing and by keep to boss and by all to thing", 3),
                            ("by in1 to boss or by keep to thing and by keep to boss and by all to thing", 2)):
            book = book_of(f"""walk keep = keeps ; walk in1 = in keeps ; walk in2 = in in keeps ; walk all = in* keeps ; walk in3 = in in in keeps ;
                let p rank 1 clerk may view on paper when {text} ;""")
            world, ask = self.holds(("never",), False, (book,))
            atoms = claim_atoms((book,), FRAME, ("never",))
            self.assertEqual(walking(book, atoms, world, ask), least_walking((book,), FRAME, ("never",)), text)
            self.assertEqual(walking(book, atoms, world, ask), steps, text)

    def test_walks_that_are_passed(self):
        self.holds(("only", ("or", by("in* in[gold] in* keeps"), INSIDE)), True)
        self.holds(("only", ("walk", ("named", "sees"), "thing")), True)
        self.holds(("only", ("walk", ("upto", ("named", "sees"), 2), "thing")), True)
        self.holds(("if", ("and", ("named", "calm"), by("in keeps"))), False, (BOOK,))

    def test_unlike_books(self):
        other = Book(read(EXAMPLE.replace("duty log ;", "duty log tell ;")))
        same = Book(read(EXAMPLE.split("walk sees")[0] + "walk seen = any ;"))
        moved = Book(read("duty log ;" + EXAMPLE.replace("duty log ;\n", "")))
        self.holds(("within",), False, (LITTLE, same))
        for claim in (("within",), ("alike",), ("never",), ("dead", "none"), ("only", ("flag", "none"))):
            for books in ((LITTLE, other), (other, LITTLE), (LITTLE, moved), [LITTLE, BOOK]):
                with self.assertRaises(Unlike):
                    claimed(books, FRAME, claim)

    def test_names_that_are_not_declared_as_they_must_be(self):
        conds = [("flag", "none"), ("flag", "gold"), ("flag", "sees"), ("tag", "asker", "none"), ("tag", "asker", "inside"), ("walk", "none", "thing"), ("walk", "gold", "thing"),
                 ("walk", "calm", "thing"), ("walk", "sees", "none"), ("walk", "sees", "paper"), ("walk", "sees", "team"), ("named", "none"), ("named", "sees"), ("named", "p1"),
                 ("atmost", "asker.none", "0", 0), ("atmost", "0", "thing.inside", 0), ("atmost", "ask.none", "0", 0), ("atmost", "ask.level", "0", 0),
                 ("atmost", "asker.amount", "0", 0)]
        self.holds(("only", ("or", ("named", "calm"), ("walk", "chart", "boss"))), False, (BOOK,))
        for cond in conds:
            cond = ("walk", "near", cond[2]) if cond[:2] == ("walk", "sees") else cond
            for whole in (cond, ("not", ("and", ("always",), cond)), ("or", ("flag", "late"), cond)):
                for word in ("only", "if"):
                    with self.assertRaises(BadClaim):
                        claimed((BOOK,), FRAME, (word, whole))
        for claim in (("dead", "none"), ("dead", "calm"), ("dead", "near"), ("dead", "log"), ("brings", "none"), ("brings", "p1"), ("brings", "inside"), ("brings", "view")):
            with self.assertRaises(BadClaim):
                claimed((BOOK,), FRAME, claim)

    def test_what_the_kinds_cannot_have(self):
        book = Book(read(REALM.replace("asker clerk ;", "asker clerk guest ;")))
        for cond in (("tag", "thing", "old"), ("tag", "asker", "gold"), ("tag", "thing", "gold"), ("not", ("or", ("always",), ("tag", "thing", "old")))):
            with self.assertRaises(BadClaim):
                claimed((book,), FRAME, ("only", cond))
        self.holds(("only", ("tag", "asker", "old")), False, (book,))
        for cond in (("tag", "asker", "old"), ("tag", "asker", "fine"), ("atmost", "asker.level", "now", 0), ("atmost", "now", "asker.level", 0), ("named", "calm")):
            with self.assertRaises(BadClaim):
                claimed((book,), ("guest", "view", "paper"), ("if", cond))
        self.holds(("if", ("tag", "thing", "fine")), False, (book,), ("guest", "view", "paper"))

    def test_names_of_the_first_book(self):
        first, second = book_of("walk a = keeps ; let p rank 1 clerk may view on paper when always ;"), book_of("walk b = keeps ; let q rank 1 clerk may view on paper when always ;")
        self.holds(("only", ("walk", "a", "thing")), False, (first, second))
        for claim in (("only", ("walk", "b", "thing")), ("dead", "q")):
            with self.assertRaises(BadClaim):
                claimed((first, second), FRAME, claim)

    def test_too_many_atoms(self):
        def cond(many):
            found = ("flag", "late")
            for gap in range(many - 1):
                found = ("and", found, ("atmost", "now", "0", gap + 1))
            return found
        book = book_of("let p rank 1 clerk may view on paper when always ;")
        self.holds(("only", cond(10)), False, (book,))
        self.holds(("if", cond(10)), True, (book,))
        for claim in (("only", cond(11)), ("if", cond(12))):
            with self.assertRaises(TooMany) as caught:
                claimed((book,), FRAME, claim)
            self.assertEqual(caught.exception.part, "atom")
            self.assertIsInstance(caught.exception, LimitError)
        # Three of the frame's, of which the condition has one, too.
        lines = "let p rank 1 clerk may view on paper when ask is late or ask is inside or asker is old ;"
        self.holds(("only", cond(8)), False, (book_of(lines),))
        with self.assertRaises(TooMany):
            claimed((book_of(lines),), FRAME, ("only", cond(9)))

    def test_atoms_of_two_books(self):
        def policy(first, last):
            return book_of("let p rank 1 clerk may view on paper when " + " or ".join(f"now <= 0 + {gap}" for gap in range(first, last)) + " ;")
        self.holds(("within",), True, (policy(1, 6), policy(4, 11)))
        self.holds(("alike",), False, (policy(1, 6), policy(4, 11)))
        for claim in (("within",), ("never",)):
            with self.assertRaises(TooMany) as caught:
                claimed((policy(1, 6), policy(4, 12)), FRAME, claim)
            self.assertEqual(caught.exception.part, "atom")

    def test_the_order_of_errors(self):
        many = ("flag", "none")
        for gap in range(12):
            many = ("and", many, ("atmost", "now", "0", gap + 1))
        with self.assertRaises(BadClaim):
            claimed((BOOK,), FRAME, ("only", many))

    def test_too_many_nodes(self):
        for many, is_large in ((398, False), (399, True), (1300, True)):
            walks = ring_walk(37, (many % 37,)), ring_walk(38, [at for at in range(38) if at != many % 38])
            lines = [f"walk w{at} = {write_walk(part)} ;" for at, part in enumerate(walks)]
            book = Book(read(RINGS + "".join(lines) + "let p rank 1 clerk may view on paper when by w0 to thing and not by w1 to thing ;"))
            self.holds(("if", ("walk", "w0", "thing")), False, (book,))
            if is_large:
                with self.assertRaises(TooMany) as caught:
                    claimed((book,), FRAME, ("never",))
                self.assertEqual(caught.exception.part, "node")
            else:
                world, ask = claimed((book,), FRAME, ("never",))[1]
                self.assertEqual(len(world[0]), many + 2)
                self.assertIs(stands(book, world, ask, ("walk", "w0", "thing")), True)

    def test_by_chance(self):
        chance = random.Random(251)
        seen = {}
        for turn in range(220):
            books = tuple(book_by_chance(chance) for _ in range(chance.randint(1, 2)))
            claim = claim_by_chance(chance, books)
            frame = chance.choice((FRAME, FRAME, COPY))
            if len(claim_atoms(books, frame, claim)) > 6:
                continue
            word, found = check_claim(self, books, frame, claim)
            least = least_walking(books, frame, claim)
            if word == "holds":
                self.assertIsNone(least)
            else:
                steps = walking(books[0], claim_atoms(books, frame, claim), *found)
                self.assertTrue(steps == least or steps > 4 and (least is None or steps <= least), (steps, least))
            seen[claim[0], word] = seen.get((claim[0], word), 0) + 1
        self.assertTrue(len(seen) == 14 and min(seen.values()) > 1, seen)


def book_by_chance(chance):
    """A book of the realm's plan with policies made by chance."""
    lines = [("walk", "deep", walk_of("in{2} keeps"))]
    while len(lines) < 4:
        line = ("walk", f"w{len(lines) - 1}", by_chance.small_walk(chance, BOOK))
        if not faults((*read(PLAN), *lines, line)):
            lines.append(line)
    atoms = (("walk", "w0", "thing"), ("walk", "w1", "thing"), ("walk", "w2", "thing"), ("walk", "w2", "boss"), ("walk", "deep", "thing"), ("flag", "late"),
             ("atmost", "asker.level", "now", -1), ("tag", "asker", "old"), ("always",))
    atoms = tuple(chance.sample(atoms, 4))
    for at in range(chance.randint(1, 3)):
        word = chance.choice(("let", "let", "bar"))
        duties = chance.choice(((), ("log",), ("log", "tell"))) if word == "let" else ()
        kinds = (("clerk",), chance.choice((("view",), ("view", "copy"))), ("paper",))
        lines.append((word, f"p{at}", chance.randint(1, 2), *kinds, by_chance.fitting_cond(chance, 3, atoms, ()), duties))
    return Book((*read(PLAN), *lines))


def walk_of(text):
    return read(f"walk w = {text} ;")[0][2]


def claim_by_chance(chance, books):
    word = chance.choice(("never", "only", "only", "if", "if", "dead", "brings", "within", "alike")[:9 if len(books) == 2 else 7])
    if word in ("only", "if"):
        atoms = (*[atom for atom in books[0].atoms(FRAME)][:3], atom_by_chance(chance, books[0]), ("walk", "w1", "thing"), ("flag", "late"))
        return (word, by_chance.fitting_cond(chance, 3, atoms, ()))
    if word == "dead":
        return (word, chance.choice([line[1] for line in books[0].tree if line[0] in ("let", "bar")]))
    return (word, chance.choice(("log", "tell"))) if word == "brings" else (word,)


if __name__ == "__main__":
    unittest.main()
