"""Equal arguments give equal results, arguments stay as they were, and what failed has changed nothing [2]."""

import copy
import random
import unittest

from leaveledger.books import Book
from leaveledger.errors import LeaveError
from leaveledger.faults import faults
from leaveledger.flatten import flat
from leaveledger.letters import is_word, letters
from leaveledger.reading import read
from leaveledger.tokens import tokens_of
from leaveledger.trees import is_tree
from leaveledger.worlds import is_world, row_of, world_of
from leaveledger.writing import write, write_cond, write_walk
from tests import chance as by_chance
from tests.samples import EXAMPLE, LINES

TREE = read(EXAMPLE)
BOOK = Book(TREE)
OTHER = Book(read("asker clerk; group team; thing paper; tag gold on team clerk; tie in from clerk to team paper;"))
NODES = [("red", "team", ("gold",)), ("ana", "clerk", ()), ("memo", "paper", ())]
LINKS = [("red", "keeps", "memo"), ("ana", "in", "red")]
WORLD = world_of(BOOK, NODES, LINKS)
WORD = (("in", "team", ()), ("keeps", "paper", ()))


def calls():
    """Pairs of a function and its arguments."""
    found = [
        (is_tree, (TREE,)), (is_tree, (list(TREE),)), (tokens_of, (EXAMPLE,)), (read, (EXAMPLE,)), (read, ("asker",)),
        (read, ("asker a a;",)), (write, (TREE,)), (flat, (TREE,)), (faults, (TREE,)), (faults, (TREE + TREE,)),
        (letters, (BOOK, ("clerk", ()))), (letters, (OTHER, ("clerk", ()))), (letters, (BOOK, ("team", ("gold",)))),
        (is_word, (BOOK, "clerk", "paper", WORD)), (is_word, (OTHER, "clerk", "paper", WORD)),
        (world_of, (BOOK, NODES, LINKS)), (world_of, (OTHER, NODES, LINKS)), (world_of, (BOOK, NODES, LINKS[::-1], [])),
        (world_of, (BOOK, NODES, LINKS + LINKS)), (world_of, (BOOK, NODES * 30, LINKS)), (is_world, (BOOK, WORLD)),
        (is_world, (OTHER, WORLD)), (row_of, (WORLD, "ana", "in")), (row_of, (WORLD, "memo", "in")),
    ]
    for line, text in LINES:
        found += [(is_tree, ((line,),)), (write, ((line,),)), (read, (text,)), (read, (text[:-1],)), (faults, ((line,),))]
    chance = random.Random(17)
    for _ in range(10):
        found += [(write_walk, (by_chance.expression(chance, 4),)), (write_cond, (by_chance.cond(chance, 4),))]
        found.append((faults, (by_chance.tree(chance, 3),)))
    return found


def outcome(function, arguments):
    """What a call returns, or the error that it raises with its attributes."""
    try:
        return function(*arguments)
    except LeaveError as error:
        return (error.__class__, vars(error))


class SteadyTest(unittest.TestCase):
    def test_in_whatever_order(self):
        rows = calls()
        first = [outcome(*row) for row in rows]
        self.assertEqual([outcome(*row) for row in rows], first)
        order = list(range(len(rows)))
        for seed in range(3):
            random.Random(seed).shuffle(order)
            for at in order:
                self.assertEqual(outcome(*rows[at]), first[at])

    def test_arguments_stay(self):
        kept = [BOOK, OTHER]
        for function, arguments in calls():
            before = [copy.deepcopy(part) for part in arguments if part not in kept]
            outcome(function, arguments)
            self.assertEqual([part for part in arguments if part not in kept], before)

    def test_books_stay(self):
        before = [copy.deepcopy(vars(book)) for book in (BOOK, OTHER)]
        for row in calls():
            outcome(*row)
        for book, attributes in zip((BOOK, OTHER), before):
            for name in ("tree", "flattened", "plan", "frames"):
                self.assertEqual(getattr(book, name), attributes[name])

    def test_two_books_do_not_share(self):
        self.assertEqual(letters(OTHER, ("clerk", ())), (("in", "paper", ()), ("in", "team", ()), ("in", "team", ("gold",))))
        self.assertEqual(len(letters(BOOK, ("clerk", ()))), 4)
        self.assertEqual(len(letters(OTHER, ("clerk", ()))), 3)

    def test_truths(self):
        for function, arguments in calls():
            if function.__name__.startswith("is_"):
                self.assertIn(outcome(function, arguments), (True, False))
                self.assertIs(type(outcome(function, arguments)), bool)

    def test_tuples(self):
        def is_plain(thing):
            return isinstance(thing, (str, int)) or thing is None or isinstance(thing, tuple) and all(map(is_plain, thing))
        for function, arguments in calls():
            found = outcome(function, arguments)
            if not (isinstance(found, tuple) and found and isinstance(found[0], type)):
                self.assertTrue(is_plain(found), (function, arguments))


if __name__ == "__main__":
    unittest.main()
