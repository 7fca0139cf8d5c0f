"""Equal arguments give equal results, arguments stay as they were, and what failed has changed nothing [2]."""

import copy
import random
import unittest

from leaveledger.answers import answer, stands
from leaveledger.books import Book
from leaveledger.deeds import done
from leaveledger.errors import LeaveError
from leaveledger.faults import faults
from leaveledger.flatten import flat
from leaveledger.languages import Language
from leaveledger.letters import is_word, letters
from leaveledger.machines import machine, takes
from leaveledger.places import Places
from leaveledger.reading import read
from leaveledger.tokens import tokens_of
from leaveledger.trees import is_tree
from leaveledger.walked import walked
from leaveledger.worlds import is_world, row_of, world_of
from leaveledger.writing import write, write_cond, write_walk
from tests import chance as by_chance
from tests.samples import EXAMPLE, LINES

TREE = read(EXAMPLE)
BOOK = Book(TREE)
OTHER = Book(read("asker clerk; group team; thing paper; tag gold on team clerk; tie in from clerk to team paper;"))
NODES = [("red", "team", ("gold",)), ("ana", "clerk", ()), ("memo", "paper", ())]
LINKS = [("red", "keeps", "memo"), ("ana", "in", "red")]
WORLD = world_of(BOOK, NODES, LINKS)
WORD = (("in", "team", ()), ("keeps", "paper", ()))
ASK = ("ana", "view", "memo", (False,), (), 0)
SEES, GILT = ("named", "sees"), ("named", "gilt")
COND = ("or", ("walk", "gilt", "thing"), ("not", ("flag", "inside")))
TABLE = ("table", ((0, WORD[0], 0), (0, WORD[1], 1), (0, WORD[1], 1)), 1)
PLACES, OTHER_PLACES = Places(BOOK, GILT), Places(BOOK, TABLE)
LANGUAGE, OTHER_LANGUAGE = Language(BOOK, "clerk", SEES, "paper"), Language(BOOK, "clerk", TABLE, "paper")


def calls():
    """Pairs of a function and its arguments."""
    found = [
        (is_tree, (TREE,)), (is_tree, (list(TREE),)), (tokens_of, (EXAMPLE,)), (read, (EXAMPLE,)), (read, ("asker",)),
        (read, ("asker a a;",)), (write, (TREE,)), (flat, (TREE,)), (faults, (TREE,)), (faults, (TREE + TREE,)),
        (letters, (BOOK, ("clerk", ()))), (letters, (OTHER, ("clerk", ()))), (letters, (BOOK, ("team", ("gold",)))),
        (is_word, (BOOK, "clerk", "paper", WORD)), (is_word, (OTHER, "clerk", "paper", WORD)),
        (world_of, (BOOK, NODES, LINKS)), (world_of, (OTHER, NODES, LINKS)), (world_of, (BOOK, NODES, LINKS[::-1], [])),
        (world_of, (BOOK, NODES, LINKS + LINKS)), (world_of, (BOOK, NODES * 30, LINKS)), (is_world, (BOOK, WORLD)),
        (is_world, (OTHER, WORLD)), (row_of, (WORLD, "ana", "in")), (row_of, (WORLD, "memo", "in")),
    ]
    found += [
        (walked, (BOOK, WORLD, walk, node)) for walk in (SEES, GILT, TABLE, ("upto", SEES, 2)) for node in ("ana", "red", "memo")
    ]
    found += [(stands, (BOOK, WORLD, ask, COND)) for ask in (ASK, ("ana", *ASK[1:3], [True], (), 0))]
    found += [(answer, (BOOK, WORLD, ask)) for ask in (ASK, ("red", *ASK[1:]), (*ASK[:3], (True,), (), 3))]
    found += [(done, (BOOK, WORLD, deed)) for deed in (
        ("node", "bob", "clerk", (), ()), ("node", "ana", "clerk", (), ()), ("drop", "red"), ("link", "ana", "keeps", "memo"),
        ("cut", "ana", "in", "red"), ("tag", "red", "gold", True), ["drop", "red"],
    )]
    for walk in (SEES, GILT, TABLE):
        found += [(machine, (BOOK, "clerk", walk, "paper")), (takes, (machine(BOOK, "clerk", walk, "paper"), WORD))]
    for places in (PLACES, OTHER_PLACES):
        found += [(places.__call__, (at, letter)) for at in ((0,), (0, 1), ()) for letter in WORD]
    for book in (BOOK, OTHER):
        found += [(book.atoms, (("clerk", "view", "paper"),)), (book.policies, (("clerk", "view", "paper"),))]
    found += [(BOOK.written, (GILT,)), (BOOK.written_cond, (COND,))]
    found += [(LANGUAGE.__contains__, (WORD,)), (LANGUAGE.__bool__, ()), (LANGUAGE.inside, (OTHER_LANGUAGE,)),
              (OTHER_LANGUAGE.inside, (LANGUAGE,)), (OTHER_LANGUAGE.__contains__, (WORD[:1],))]
    for line, text in LINES:
        found += [(is_tree, ((line,),)), (write, ((line,),)), (read, (text,)), (read, (text[:-1],)), (faults, ((line,),))]
    chance = random.Random(17)
    for _ in range(10):
        found += [(write_walk, (by_chance.expression(chance, 4),)), (write_cond, (by_chance.cond(chance, 4),))]
        found.append((faults, (by_chance.tree(chance, 3),)))
    return found


def outcome(function, arguments):
    """What a call returns, or the error that it raises with its attributes."""
    try:
        return function(*arguments)
    except LeaveError as error:
        return (error.__class__, vars(error))


class SteadyTest(unittest.TestCase):
    def test_in_whatever_order(self):
        rows = calls()
        first = [outcome(*row) for row in rows]
        self.assertEqual([outcome(*row) for row in rows], first)
        order = list(range(len(rows)))
        for seed in range(3):
            random.Random(seed).shuffle(order)
            for at in order:
                self.assertEqual(outcome(*rows[at]), first[at])

    def test_arguments_stay(self):
        kept = [BOOK, OTHER, LANGUAGE, OTHER_LANGUAGE]
        for function, arguments in calls():
            before = [copy.deepcopy(part) for part in arguments if part not in kept]
            outcome(function, arguments)
            self.assertEqual([part for part in arguments if part not in kept], before)

    def test_books_stay(self):
        before = [copy.deepcopy(vars(book)) for book in (BOOK, OTHER)]
        for row in calls():
            outcome(*row)
        for book, attributes in zip((BOOK, OTHER), before):
            for name in ("tree", "flattened", "plan", "frames"):
                self.assertEqual(getattr(book, name), attributes[name])

    def test_what_objects_show_stays(self):
        def shown():
            return [(places.last, places.size) for places in (PLACES, OTHER_PLACES)] + [LANGUAGE.least, OTHER_LANGUAGE.least]
        before = copy.deepcopy(shown())
        for row in calls():
            outcome(*row)
        self.assertEqual(shown(), before)

    def test_two_books_do_not_share(self):
        self.assertEqual(letters(OTHER, ("clerk", ())), (("in", "paper", ()), ("in", "team", ()), ("in", "team", ("gold",))))
        self.assertEqual(len(letters(BOOK, ("clerk", ()))), 4)
        self.assertEqual(len(letters(OTHER, ("clerk", ()))), 3)

    def test_truths(self):
        for function, arguments in calls():
            if function.__name__.startswith("is_"):
                self.assertIn(outcome(function, arguments), (True, False))
                self.assertIs(type(outcome(function, arguments)), bool)

    def test_tuples(self):
        def is_plain(thing):
            return isinstance(thing, (str, int)) or thing is None or isinstance(thing, tuple) and all(map(is_plain, thing))
        for function, arguments in calls():
            found = outcome(function, arguments)
            if not (isinstance(found, tuple) and found and isinstance(found[0], type)):
                self.assertTrue(is_plain(found), (function, arguments))


if __name__ == "__main__":
    unittest.main()
