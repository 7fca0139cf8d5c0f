"""Combinations of walks, and tables of machines [25]."""

import random
import unittest

from leaveledger.books import Book
from leaveledger.combine import combined, table_of
from leaveledger.errors import LimitError, TooLarge
from leaveledger.machines import machine, takes
from leaveledger.reading import read
from leaveledger.trees import is_walk
from leaveledger.writing import write_walk
from tests import chance as by_chance
from tests.plain import Plain, all_words
from tests.samples import EXAMPLE, SMALL, TOWN
from tests.test_machines import LeastMachineCheck

BOOK = Book(read(EXAMPLE))
SMALL_BOOK = Book(read(SMALL))
TOWN_BOOK = Book(read(TOWN))
IN, GOLD, KEEPS, WEARS = ("in", "team", ()), ("in", "team", ("gold",)), ("keeps", "paper", ()), ("wears", "auditor", ())
EMPTY = (((),), None)
ALL = ((((IN, 0), (GOLD, 0), (KEEPS, 1)), ()), 1)


def of(text):
    return ("of", read(f"walk w = {text} ;")[0][2])


SEES, GILT = of("@sees"), of("@gilt")


def is_combined(plain, combination, word):
    name, *parts = combination
    if name == "of":
        return plain.has_word(parts[0], word)
    truths = [is_combined(plain, part, word) for part in parts]
    return {"both": all(truths), "either": any(truths), "not": not truths[0]}[name]


def by_chance_combined(chance, walks, deep):
    """A combination that uses each of some walks at most once, nested at most so deep."""
    if deep == 1 or len(walks) == 1 and chance.random() < 0.5:
        return ("of", walks[0])
    if len(walks) == 1 or chance.random() < 0.3:
        return ("not", by_chance_combined(chance, walks, deep - 1))
    at = chance.randrange(1, len(walks))
    word = chance.choice(("both", "either"))
    return (word, by_chance_combined(chance, walks[:at], deep - 1), by_chance_combined(chance, walks[at:], deep - 1))


class CombinedTest(LeastMachineCheck):
    def made(self, combination, kind="clerk", end="paper", book=BOOK):
        found = combined(book, kind, combination, end)
        self.check_form(found)
        return found

    def test_of(self):
        for text in ("@sees", "@gilt", "in{2} keeps", "in", "table final -", "keeps?", "table 0 keeps paper [] 3 final 3"):
            for kind, end in (("clerk", "paper"), ("guest", "paper"), ("clerk", "auditor")):
                self.assertEqual(self.made(of(text), kind, end), machine(BOOK, kind, of(text)[1], end), (text, kind, end))

    def test_both(self):
        self.assertEqual(self.made(("both", SEES, GILT)), self.made(GILT))
        self.assertEqual(self.made(("both", of("in[gold] in keeps"), of("in in[gold] keeps"))), self.made(of("in[gold] in[gold] keeps")))
        self.assertEqual(self.made(("both", of("keeps"), of("in keeps"))), EMPTY)

    def test_either(self):
        self.assertEqual(self.made(("either", SEES, GILT)), ALL)
        self.assertEqual(self.made(("either", of("keeps"), of("in keeps"))), self.made(of("in{1} keeps")))
        self.assertEqual(self.made(("either", of("in"), of("wears"))), EMPTY)

    def test_not(self):
        self.assertEqual(self.made(("not", GILT)), self.made(of("in[-gold]* keeps")))
        self.assertEqual(self.made(("both", SEES, ("not", of("keeps")))), self.made(of("in+ keeps")))

    def test_not_of_all_words_and_of_none(self):
        self.assertEqual(self.made(("not", SEES)), EMPTY)
        self.assertEqual(self.made(("not", of("in"))), ALL)
        self.assertEqual(self.made(("not", of("table final -"))), ALL)
        self.assertEqual(self.made(("not", ("not", of("in")))), EMPTY)
        self.assertEqual(self.made(("not", of("any*")), "guest", "auditor"), EMPTY)
        self.assertEqual(self.made(("not", of("keeps")), "guest"), machine(BOOK, "guest", of("any*")[1], "paper"))
        # The empty word is no word, so it is not one of what is not in a walk either.
        self.assertFalse(takes(self.made(("not", of("in"))), ()))

    def test_only_words_of_the_book(self):
        book = Book(read("asker a b; group g; thing t; tag x on g; tie i from a g to g t; never i [x] to [-x];"))
        self.assertEqual(combined(book, "b", ("not", of("i")), "t"), EMPTY)
        found = combined(book, "a", ("not", of("i{2} i")), "t")
        gold, plain = ("i", "g", ("x",)), ("i", "g", ())
        self.assertIs(takes(found, (gold, gold, gold, ("i", "t", ()))), True)
        self.assertIs(takes(found, (gold, plain, gold, ("i", "t", ()))), False)
        self.assertIs(takes(found, (gold, gold, ("i", "t", ()))), False)

    def test_what_is_true_of_sets(self):
        chance = random.Random(71)
        for turn in range(40):
            x, y, z = [("of", by_chance.fitting_walk(chance, 4, ("in", "keeps"), ("gold",), ("deep",))) for _ in range(3)]
            def made(combination):
                return combined(SMALL_BOOK, "clerk", combination, "paper")
            self.assertEqual(made(("not", ("not", x))), made(x))
            self.assertEqual(made(("both", x, y)), made(("both", y, x)))
            self.assertEqual(made(("either", x, y)), made(("either", y, x)))
            self.assertEqual(made(("not", ("both", x, y))), made(("either", ("not", x), ("not", y))))
            self.assertEqual(made(("not", ("either", x, y))), made(("both", ("not", x), ("not", y))))
            self.assertEqual(made(("both", x, ("either", y, z))), made(("either", ("both", x, y), ("both", x, z))))
            self.assertEqual(made(("both", x, ("not", x))), EMPTY)
            self.assertEqual(made(("either", x, ("not", x))), made(("not", of("in"))))

    def test_against_all_words(self):
        chance = random.Random(72)
        plain = Plain(SMALL_BOOK.tree)
        for turn in range(150):
            walks = [by_chance.small_walk(chance, SMALL_BOOK) for _ in range(chance.randint(1, 4))]
            combination = by_chance_combined(chance, walks, 6)
            end = chance.choice(("paper", "boss"))
            found = self.made(combination, end=end, book=SMALL_BOOK)
            for word in all_words(SMALL_BOOK, "clerk", end, 5):
                self.assertIs(takes(found, word), is_combined(plain, combination, word), (combination, word))

    def test_six_deep(self):
        combination = SEES
        for _ in range(5):
            combination = ("not", combination)
        self.assertEqual(self.made(combination), EMPTY)
        combination = ("both", ("not", ("either", ("not", ("both", SEES, ("not", GILT))), of("keeps"))), of("in in* keeps"))
        self.assertEqual(self.made(combination), self.made(of("in[-gold]+ keeps")))


def machine_with(states, moves):
    """A least machine with so many states and moves: letters by which one goes through all states, the others to the end."""
    rows = [[] for _ in range(states)]
    for at in range(states - 1):
        rows[at].append((("in", f"g{at:03}", ()), at + 1))
    moves -= states - 1
    for at in range(states - 1):
        for many in range(9):
            if moves:
                rows[at].append((("keeps", f"t{many}", ()), states - 1))
                moves -= 1
    return (tuple(tuple(row) for row in rows), states - 1)


class TableOfTest(unittest.TestCase):
    def check(self, book, found, kind, end):
        table = table_of(found)
        self.assertEqual(table[0], "table")
        self.assertEqual(list(table[1]), sorted(table[1]))
        self.assertEqual(table[1], tuple((state, letter, after) for state, row in enumerate(found[0]) for letter, after in row))
        self.assertEqual(table[2], found[1])
        self.assertIs(is_walk(table), True)
        self.assertEqual(machine(book, kind, table, end), found)

    def test_example(self):
        self.assertEqual(table_of(machine(BOOK, "clerk", SEES[1], "paper")),
                         ("table", ((0, IN, 0), (0, GOLD, 0), (0, KEEPS, 1)), 1))
        self.assertEqual(write_walk(table_of(machine(BOOK, "clerk", of("wears")[1], "auditor"))), "table 0 wears auditor [ ] 1 final 1")

    def test_the_empty_language(self):
        self.assertEqual(table_of(EMPTY), ("table", (), None))
        self.assertEqual(machine(BOOK, "clerk", table_of(EMPTY), "paper"), EMPTY)

    def test_its_language_is_that_of_the_machine(self):
        chance = random.Random(73)
        most = 0
        for turn in range(80):
            walk = by_chance.fitting_walk(chance, 5, ("in", "tops", "keeps"), ("gold", "old"), ("sees", "gilt"))
            for kind, end in (("clerk", "paper"), ("guest", "boss")):
                found = machine(TOWN_BOOK, kind, walk, end)
                self.check(TOWN_BOOK, found, kind, end)
                most = max(most, len(found[0]))
        self.assertTrue(most > 5, most)

    def test_states(self):
        self.assertEqual(table_of(machine_with(40, 60))[2], 39)
        with self.assertRaises(TooLarge) as caught:
            table_of(machine_with(41, 60))
        self.assertEqual(caught.exception.part, "table")
        self.assertIsInstance(caught.exception, LimitError)

    def test_moves(self):
        self.assertEqual(len(table_of(machine_with(40, 200))[1]), 200)
        for states, moves in ((40, 201), (30, 201), (41, 201)):
            with self.assertRaises(TooLarge) as caught:
                table_of(machine_with(states, moves))
            self.assertEqual(caught.exception.part, "table")


if __name__ == "__main__":
    unittest.main()
