"""Decision tables [33], ways through them [34], and reasons [35]."""

import itertools
import random
import unittest

from leaveledger.answers import answer, stands
from leaveledger.books import Book
from leaveledger.deciding import Decider, decide, worths_of
from leaveledger.reading import read
from leaveledger.reasons import judge_reason, reason
from leaveledger.tables import table, yes_table
from tests import chance as by_chance
from tests.junk import JUNK, same, some_variants
from tests.samples import EXAMPLE, TOWN
from tests.test_walked import NODES

BOOK = Book(read(EXAMPLE))
TOWN_BOOK = Book(read(TOWN))
FRAME = ("clerk", "view", "paper")
PLAN = """\
asker clerk ; thing paper ; flag a b c d e f g h ; action view ; duty log tell ;
"""
NONE = ("none", 0, (), ())


def book_of(*policies):
    return Book(read(PLAN + "".join(policies)))


EIGHT = book_of(
    "let p1 rank 5 clerk may view on paper when ask is a and ask is b or ask is c and not ask is d due log ;",
    "bar p2 rank 5 clerk may view on paper when ask is e and ask is f ;",
    "let p3 rank 7 clerk may view on paper when ask is g and ( ask is h or ask is a ) due tell ;",
)


def truths(cond, atoms, valuation):
    """Whether a condition written out stands by a valuation."""
    word, *parts = cond
    if word == "always":
        return True
    if word in ("not", "and", "or"):
        found = [truths(part, atoms, valuation) for part in parts]
        return not found[0] if word == "not" else (all if word == "and" else any)(found)
    return valuation[list(atoms).index(cond)]


def plain_answer(book, frame, atoms, valuation):
    """The answer that [20] tells for a valuation."""
    held = [line for line in book.flattened if line[0] in ("let", "bar") and line[1] in book.policies(frame)
            and truths(line[6], atoms, valuation)]
    if not held:
        return NONE
    rank = max(line[2] for line in held)
    effect = "bar" if any(line[2] == rank and line[0] == "bar" for line in held) else "let"
    held = [line for line in held if line[2] == rank and line[0] == effect]
    return (effect, rank, tuple(line[1] for line in held), tuple(dict.fromkeys(duty for line in held for duty in line[7])))


def valuations(n):
    return list(itertools.product((False, True), repeat=n))


def walked_to(rows, valuation):
    at = len(rows) - 1
    while rows[at][0] != "leaf":
        at = rows[at][2 if valuation[rows[at][0]] else 1]
    return rows[at][1]


def books():
    """Books of policies made by chance, and the ones told here."""
    chance = random.Random(151)
    found = [BOOK, TOWN_BOOK, EIGHT]
    for _ in range(25):
        atoms = [("flag", name) for name in chance.sample("abcdefgh", chance.randint(1, 6))] + [("always",)]
        lines = [(chance.choice(("let", "bar")), f"p{at}", chance.randint(0, 3), ("clerk",), ("view",), ("paper",),
                  by_chance.fitting_cond(chance, 4, atoms, ()), ()) for at in range(chance.randint(1, 5))]
        found.append(Book((*read(PLAN), *lines)))
    return found


class TableCheck(unittest.TestCase):
    def check_form(self, rows, atoms):
        """What [33] says of the nodes of a table and of their order."""
        self.assertIs(type(rows), tuple)
        self.assertEqual(len(set(map(repr, rows))), len(rows))
        for at, row in enumerate(rows):
            self.assertIs(type(row), tuple)
            if row[0] == "leaf":
                self.assertEqual(len(row), 2)
                continue
            atom, low, high = row
            self.assertIs(type(atom), int)
            self.assertTrue(0 <= atom < atoms and low != high)
            for after in (low, high):
                self.assertTrue(0 <= after < at)
                self.assertTrue(rows[after][0] == "leaf" or rows[after][0] > atom)
        left = []

        def leave(at):
            if at not in left:
                for after in rows[at][1:] if rows[at][0] != "leaf" else ():
                    leave(after)
                left.append(at)
        leave(len(rows) - 1)
        self.assertEqual(left, list(range(len(rows))))


class TableTest(TableCheck):
    def test_example(self):
        bar, let = ("bar", 7, ("p2",), ()), ("let", 5, ("p1",), ("log",))
        self.assertEqual(table(BOOK, FRAME), (
            ("leaf", bar), ("leaf", NONE), (2, 0, 1), (1, 2, 1), ("leaf", let), (2, 0, 4), (1, 5, 4), (0, 3, 6)))

    def test_no_atom(self):
        book = book_of("let p1 rank 5 clerk may view on paper when always due log ;")
        self.assertEqual(table(book, FRAME), (("leaf", ("let", 5, ("p1",), ("log",))),))
        self.assertEqual(yes_table(book, FRAME, ()), (("leaf", True),))
        book = book_of("bar p1 rank 5 clerk may view on paper when always or not always ;")
        self.assertEqual(table(book, FRAME), (("leaf", ("bar", 5, ("p1",), ())),))
        self.assertEqual(yes_table(book, FRAME, ()), (("leaf", False),))

    def test_one_atom(self):
        book = book_of("let p1 rank 5 clerk may view on paper when not ask is a ;")
        self.assertEqual(table(book, FRAME), (("leaf", ("let", 5, ("p1",), ())), ("leaf", NONE), (0, 0, 1)))
        book = book_of("let p1 rank 5 clerk may view on paper when ask is a or not ask is a ;")
        self.assertEqual(book.atoms(FRAME), (("flag", "a"),))
        self.assertEqual(table(book, FRAME), (("leaf", ("let", 5, ("p1",), ())),))

    def test_as_many_atoms_as_there_can_be(self):
        atoms = EIGHT.atoms(FRAME)
        self.assertEqual(len(atoms), 8)
        rows = table(EIGHT, FRAME)
        self.check_form(rows, 8)
        for valuation in valuations(8):
            self.assertEqual(walked_to(rows, valuation), plain_answer(EIGHT, FRAME, atoms, valuation))

    def test_frames_that_are_none(self):
        for book in (BOOK, TOWN_BOOK, EIGHT):
            for frame in (("clerk", "none", "paper"), ("guest", "view", "clerk"), ("nobody", "view", "paper")):
                self.assertEqual(table(book, frame), (("leaf", NONE),))
                self.assertEqual(yes_table(book, frame, ()), (("leaf", False),))
                self.assertEqual(yes_table(book, frame, (("flag", "inside"),)), (("leaf", False),))

    def test_all_frames(self):
        for book in books():
            for frame in book.frames:
                atoms = book.atoms(frame)
                rows = table(book, frame)
                self.check_form(rows, len(atoms))
                for valuation in valuations(len(atoms)):
                    self.assertEqual(walked_to(rows, valuation), plain_answer(book, frame, atoms, valuation))

    def test_the_answers_of_a_world(self):
        chance = random.Random(152)
        book = TOWN_BOOK
        for turn in range(60):
            world = by_chance.world(chance, book, NODES, 60)
            asker = chance.choice(["ana", "bob"])
            thing = chance.choice(["memo", "sheet", "leaf"])
            ask = (asker, chance.choice(("view", "copy", "edit")), thing, tuple(chance.random() < 0.5 for _ in range(3)),
                   (chance.randint(0, 9), chance.randint(0, 9)), chance.randint(0, 9))
            kinds = {name: kind for name, kind, _ in NODES}
            frame = (kinds[asker], ask[1], kinds[thing])
            valuation = tuple(stands(book, world, ask, atom) for atom in book.atoms(frame))
            self.assertEqual(decide(table(book, frame), valuation)[0], answer(book, world, ask))


class YesTableTest(TableCheck):
    def test_example(self):
        sees, inside, gilt = BOOK.atoms(FRAME)
        self.assertEqual(yes_table(BOOK, FRAME, (sees, inside, gilt)),
                         (("leaf", False), ("leaf", True), (2, 0, 1), (1, 2, 1), (0, 0, 3)))
        self.assertEqual(yes_table(BOOK, FRAME, (inside, gilt, sees)),
                         (("leaf", False), ("leaf", True), (2, 0, 1), (1, 0, 2), (0, 3, 2)))

    def test_truths_are_the_values(self):
        for rows in (yes_table(BOOK, FRAME, BOOK.atoms(FRAME)), yes_table(BOOK, ("guest", "view", "paper"), ())):
            for row in rows:
                self.assertTrue(row[0] != "leaf" or row[1] is True or row[1] is False)

    def test_atoms_in_any_order_and_others(self):
        chance = random.Random(153)
        for book in books():
            others = [("flag", name) for line in book.plan if line[0] == "flag" for name in line[1]] + [("atmost", "now", "0", 5)]
            for frame in book.frames[:3]:
                own = list(book.atoms(frame))
                more = [atom for atom in others if atom not in own]
                atoms = own + chance.sample(more, min(len(more), 10 - len(own)))
                chance.shuffle(atoms)
                rows = yes_table(book, frame, tuple(atoms))
                self.check_form(rows, len(atoms))
                self.assertEqual({atoms[row[0]] for row in rows if row[0] != "leaf"} - set(own), set())
                for valuation in valuations(len(atoms)):
                    found = walked_to(rows, valuation)
                    self.assertIs(found, plain_answer(book, frame, atoms, valuation)[0] == "let")

    def test_the_leaves_of_table(self):
        for book in books():
            for frame in book.frames:
                atoms = book.atoms(frame)
                rows, yes = table(book, frame), yes_table(book, frame, atoms)
                for valuation in valuations(len(atoms)):
                    self.assertIs(walked_to(yes, valuation), walked_to(rows, valuation)[0] == "let")

    def test_atoms_that_are_not_written_out(self):
        sees, inside, gilt = BOOK.atoms(FRAME)
        for others in ((("walk", ("named", "sees"), "thing"), inside, ("walk", ("named", "gilt"), "thing")),
                       (("walk", ("then", ("star", ("step", "in", ())), ("step", "keeps", ())), "thing"), inside, gilt)):
            self.assertEqual(yes_table(BOOK, FRAME, others), yes_table(BOOK, FRAME, (sees, inside, gilt)))

    def test_ten_atoms(self):
        atoms = (*EIGHT.atoms(FRAME), ("tag", "asker", "x"), ("tag", "thing", "y"))
        self.assertEqual(yes_table(EIGHT, FRAME, atoms), yes_table(EIGHT, FRAME, atoms[:8]))
        rows = yes_table(EIGHT, FRAME, atoms[::-1])
        self.check_form(rows, 10)
        for valuation in valuations(10):
            self.assertIs(walked_to(rows, valuation), plain_answer(EIGHT, FRAME, atoms[::-1], valuation)[0] == "let")


LEAF = (("leaf", True),)
# One of three atoms has a say only if the other two are not equal.
ODD = (("leaf", "n"), ("leaf", "y"), (2, 0, 1), (1, 0, 2), (1, 2, 1), (0, 3, 4))
# The second atom stands on no way.
SKIPS = (("leaf", 3), ("leaf", 5), (2, 0, 1), (2, 1, 0), (0, 2, 3))


def tables():
    """Pairs of a table and the number of its atoms."""
    found = [(LEAF, 0), (LEAF, 3), (ODD, 3), (ODD, 5), (SKIPS, 3)]
    for book in books():
        for frame in book.frames[:3]:
            atoms = book.atoms(frame)
            found += [(table(book, frame), len(atoms)), (yes_table(book, frame, atoms[::-1]), len(atoms))]
    return found


class DecideTest(unittest.TestCase):
    def test_some(self):
        self.assertEqual(decide(LEAF, ()), (True, ()))
        self.assertEqual(decide(LEAF, (False, True)), (True, ()))
        self.assertEqual(decide(ODD, (False, False, True)), ("n", (0, 1)))
        self.assertEqual(decide(ODD, (False, True, True)), ("y", (0, 1, 2)))
        self.assertEqual(decide(ODD, (True, False, False)), ("n", (0, 1, 2)))
        self.assertEqual(decide(SKIPS, (True, False, False)), (5, (0, 2)))

    def test_each_valuation(self):
        for rows, n in tables():
            for valuation in valuations(n):
                value, looked = decide(rows, valuation)
                self.assertTrue(same(value, walked_to(rows, valuation)))
                self.assertEqual(list(looked), sorted(set(looked)))
                # What is not looked at has no say.
                for other in valuations(n):
                    if all(other[atom] == valuation[atom] for atom in looked):
                        self.assertTrue(same(decide(rows, other), (value, looked)))

    def test_decider_step_by_step(self):
        for rows, n in tables():
            for valuation in valuations(n):
                decider = Decider(rows)
                value, looked = decide(rows, valuation)
                for atom in looked:
                    self.assertEqual(decider.wants, atom)
                    self.assertIsNone(decider.value)
                    self.assertIsNone(decider.told(valuation[atom]))
                self.assertIsNone(decider.wants)
                self.assertTrue(same(decider.value, value))

    def test_decider_at_a_leaf(self):
        decider = Decider(ODD)
        decider.told(True)
        decider.told(True)
        for truth in (True, False, True):
            self.assertEqual((decider.wants, decider.value), (None, "y"))
            self.assertIsNone(decider.told(truth))
        decider = Decider(LEAF)
        self.assertEqual((decider.wants, decider.value), (None, True))
        self.assertIsNone(decider.told(False))
        self.assertEqual((decider.wants, decider.value), (None, True))
        decider = Decider((("leaf", False),))
        self.assertIs(decider.value, False)

    def test_deciders_do_not_share(self):
        first, second = Decider(ODD), Decider(ODD)
        first.told(False)
        self.assertEqual((first.wants, second.wants), (1, 0))
        second.told(True)
        first.told(False)
        self.assertEqual((first.value, second.value), ("n", None))


class WorthsOfTest(unittest.TestCase):
    def test_some(self):
        self.assertEqual(worths_of(LEAF, 0), ((True, 1),))
        self.assertEqual(worths_of(LEAF, 5), ((True, 32),))
        self.assertEqual(worths_of(ODD, 3), (("n", 4), ("y", 4)))
        self.assertEqual(worths_of(ODD, 4), (("n", 8), ("y", 8)))
        self.assertEqual(worths_of(SKIPS, 3), ((3, 4), (5, 4)))
        self.assertEqual(worths_of(table(BOOK, FRAME), 3),
                         ((("bar", 7, ("p2",), ()), 2), (NONE, 3), (("let", 5, ("p1",), ("log",)), 3)))

    def test_each_leaf(self):
        for rows, n in tables():
            for more in (0, 1, 3):
                found = worths_of(rows, n + more)
                self.assertEqual([value for value, _ in found], [row[1] for row in rows if row[0] == "leaf"])
                self.assertEqual(sum(many for _, many in found), 2 ** (n + more))
            for value, many in worths_of(rows, n):
                self.assertEqual(many, sum(same(walked_to(rows, valuation), value) for valuation in valuations(n)))

    def test_many_atoms(self):
        self.assertEqual(worths_of(ODD, 70), (("n", 2 ** 69), ("y", 2 ** 69)))


def settles(rows, n, pairs, value):
    return all(same(walked_to(rows, valuation), value) for valuation in valuations(n)
               if all(valuation[atom] is truth for atom, truth in pairs))


def is_reason(rows, n, value, found):
    """What [35] tells, by all valuations of n atoms."""
    if type(found) is not tuple:
        return False
    for pair in found:
        if type(pair) is not tuple or len(pair) != 2 or type(pair[0]) is not int or type(pair[1]) is not bool:
            return False
        if not 0 <= pair[0] < n:
            return False
    atoms = [atom for atom, _ in found]
    if atoms != sorted(set(atoms)) or not settles(rows, n, found, value):
        return False
    return not any(settles(rows, n, found[:at] + found[at + 1:], value) for at in range(len(found)))


class ReasonTest(unittest.TestCase):
    def test_some(self):
        self.assertEqual(reason(LEAF, ()), ())
        self.assertEqual(reason(LEAF, (True, False)), ())
        self.assertEqual(reason(ODD, (False, False, True)), ((0, False), (1, False)))
        self.assertEqual(reason(SKIPS, (False, True, True)), ((0, False), (2, True)))

    def test_less_than_is_looked_at(self):
        # All three atoms are looked at, but the first one has no say beside the others.
        self.assertEqual(decide(ODD, (False, True, True)), ("y", (0, 1, 2)))
        self.assertEqual(reason(ODD, (False, True, True)), ((1, True), (2, True)))
        self.assertEqual(reason(ODD, (True, False, True)), ((0, True), (2, True)))

    def test_each_valuation(self):
        for rows, n in tables():
            for valuation in valuations(n):
                found = reason(rows, valuation)
                value = walked_to(rows, valuation)
                self.assertTrue(all(valuation[atom] is truth for atom, truth in found))
                self.assertTrue(is_reason(rows, n, value, found), (rows, valuation, found))
                self.assertIs(judge_reason(rows, value, found), True)


class JudgeReasonTest(unittest.TestCase):
    def test_right_ones(self):
        for found in (((0, True), (1, True)), ((0, True), (2, True)), ((1, True), (2, True))):
            self.assertIs(judge_reason(ODD, "y", found), True)
            self.assertIs(judge_reason(ODD, "n", found), False)
        self.assertIs(judge_reason(LEAF, True, ()), True)

    def test_a_pair_more_or_less(self):
        self.assertIs(judge_reason(ODD, "y", ((0, True),)), False)
        self.assertIs(judge_reason(ODD, "y", ()), False)
        self.assertIs(judge_reason(ODD, "y", ((0, True), (1, True), (2, True))), False)
        self.assertIs(judge_reason(ODD, "y", ((0, True), (1, True), (2, False))), False)
        self.assertIs(judge_reason(LEAF, True, ((0, True),)), False)
        self.assertIs(judge_reason(ODD, "y", ((0, True), (1, True), (9, True))), False)
        self.assertIs(judge_reason(ODD, "y", ((-1, True), (0, True), (1, True))), False)

    def test_another_truth(self):
        self.assertIs(judge_reason(ODD, "y", ((0, True), (1, False))), False)
        self.assertIs(judge_reason(ODD, "y", ((0, False), (1, False))), False)
        self.assertIs(judge_reason(ODD, "n", ((0, False), (1, False))), True)

    def test_an_atom_twice(self):
        self.assertIs(judge_reason(ODD, "y", ((0, True), (0, True), (1, True))), False)
        self.assertIs(judge_reason(ODD, "y", ((0, False), (0, True), (1, True))), False)
        self.assertIs(judge_reason(ODD, "y", ((0, True), (0, False))), False)

    def test_not_ascending(self):
        self.assertIs(judge_reason(ODD, "y", ((1, True), (0, True))), False)

    def test_truths_and_numbers(self):
        self.assertIs(judge_reason(LEAF, 1, ()), False)
        self.assertIs(judge_reason((("leaf", 1),), True, ()), False)
        self.assertIs(judge_reason((("leaf", False),), 0, ()), False)
        self.assertIs(judge_reason((("leaf", False),), False, ()), True)
        self.assertIs(judge_reason(ODD, "y", ((False, True), (True, True))), False)
        self.assertIs(judge_reason(ODD, "y", ((0, 1), (1, 1))), False)
        self.assertIs(judge_reason(ODD, "y", ((0, True), (True, True))), False)
        rows = (("leaf", ("let", 1, ("p",), ())), ("leaf", ("none", 0, (), ())), (0, 1, 0))
        self.assertIs(judge_reason(rows, ("let", 1, ("p",), ()), ((0, True),)), True)
        self.assertIs(judge_reason(rows, ("let", True, ("p",), ()), ((0, True),)), False)
        self.assertIs(judge_reason(rows, ("none", False, (), ()), ((0, False),)), False)

    def test_values_of_other_forms(self):
        answer_rows = table(BOOK, FRAME)
        right = reason(answer_rows, (False, True, False))
        self.assertIs(judge_reason(answer_rows, NONE, right), True)
        for value in (None, True, 0, "none", (), ("none",), ("none", 0, ()), ("none", 0, (), (), ()), ("none", "0", (), ()),
                      ("none", 0, ((),), ()), ("none", 0, None, ())):
            self.assertIs(judge_reason(answer_rows, value, right), False, value)
            self.assertIs(judge_reason((("leaf", value),), NONE, ()), False, value)

    def test_another_value(self):
        for value in ("z", "", None, 0, (), ("y",), True):
            self.assertIs(judge_reason(ODD, value, ((0, True), (1, True))), False, value)
        self.assertIs(judge_reason(SKIPS, 5, ((0, True), (2, False))), True)
        self.assertIs(judge_reason(SKIPS, 3, ((0, True), (2, False))), False)

    def test_all_that_there_are(self):
        for rows, n in tables():
            if n > 4:
                continue
            for marks in itertools.product((None, False, True), repeat=n):
                found = tuple((atom, truth) for atom, truth in enumerate(marks) if truth is not None)
                for row in rows:
                    if row[0] == "leaf":
                        self.assertIs(judge_reason(rows, row[1], found), is_reason(rows, n, row[1], found))

    def test_whatever_stands_there(self):
        chance = random.Random(154)
        for other in some_variants(chance, ((0, True), (2, True)), 2000):
            for value in ("y", "n"):
                self.assertIs(judge_reason(ODD, value, other), is_reason(ODD, 3, value, other), other)
        for other in JUNK:
            self.assertIs(judge_reason(LEAF, True, other), other == ())


if __name__ == "__main__":
    unittest.main()
