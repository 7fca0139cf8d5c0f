"""Least machines, and what they take [22], with [15] and [16]."""

import itertools
import random
import unittest

from leaveledger.books import Book
from leaveledger.letters import is_word, letters
from leaveledger.machines import machine, takes
from leaveledger.reading import read
from tests import chance as by_chance
from tests.plain import Plain, all_words
from tests.samples import EXAMPLE, SMALL as SMALL_TEXT, TOWN

BOOK = Book(read(EXAMPLE))
TOWN_BOOK = Book(read(TOWN))
IN, GOLD, KEEPS, WEARS = ("in", "team", ()), ("in", "team", ("gold",)), ("keeps", "paper", ()), ("wears", "auditor", ())
SEES = ((((IN, 0), (GOLD, 0), (KEEPS, 1)), ()), 1)
GILT = ((((IN, 0), (GOLD, 1)), ((IN, 1), (GOLD, 1), (KEEPS, 2)), ()), 2)
EMPTY = (((),), None)
SMALL = Book(read(SMALL_TEXT))


def walk_of(text):
    return read(f"walk w = {text} ;")[0][2]


def machine_of(text, kind="clerk", end="paper", book=BOOK):
    return machine(book, kind, walk_of(text), end)


def ways_on(rows, final):
    """For each state the states from which final can be reached, and pairs of states that some word tells apart."""
    live = {final}
    apart = {(first, second) for first in range(len(rows)) for second in range(len(rows)) if (first == final) != (second == final)}
    for _ in rows:
        live |= {state for state, row in enumerate(rows) if any(after in live for _, after in row)}
    steps = [dict(row) for row in rows]
    signs = {letter for row in steps for letter in row}
    for _ in rows:
        for first, second in itertools.combinations(range(len(rows)), 2):
            for letter in signs:
                after, other = steps[first].get(letter), steps[second].get(letter)
                if (after is None) != (other is None) or after is not None and (after, other) in apart:
                    apart |= {(first, second), (second, first)}
    return live, apart


class LeastMachineCheck(unittest.TestCase):
    def check_form(self, found):
        """That a machine is least, is numbered as told, and has the forms of tuples told."""
        rows, final = found
        self.assertEqual([type(part) for part in (found, rows, *rows)], [tuple] * (2 + len(rows)))
        met = [0]
        for row in rows:
            self.assertEqual(list(row), sorted(row))
            self.assertEqual(len({letter for letter, _ in row}), len(row))
            for letter, after in row:
                self.assertIs(type(after), int)
                if after not in met:
                    met.append(after)
        self.assertEqual(met, list(range(len(rows))))
        if final is None:
            self.assertEqual(found, EMPTY)
            return
        self.assertEqual(rows[final], ())
        live, apart = ways_on(rows, final)
        self.assertEqual(live, set(met))
        self.assertEqual(len(apart), len(rows) * (len(rows) - 1))

    def check_words(self, book, plain, kind, walk, end, most):
        """That a machine takes just the words of a walk among those with at most so many letters."""
        found = machine(book, kind, walk, end)
        self.check_form(found)
        for word in all_words(book, kind, end, most):
            self.assertIs(takes(found, word), plain.has_word(walk, word), (walk, word))
        return found


class MachinesTest(LeastMachineCheck):
    def test_example(self):
        self.assertEqual(machine_of("@sees"), SEES)
        self.assertEqual(machine_of("@gilt"), GILT)
        self.assertEqual(machine_of("in* keeps"), SEES)

    def test_empty(self):
        for text in ("in", "in*", "keeps keeps", "wears", "keeps in", "keeps[gold]",
                     "table final 0", "table final -", "table 0 keeps paper [] 1 final -", "table 0 keeps paper [] 1 final 0",
                     "table 0 keeps paper [] 1 final 2", "table 1 keeps paper [] 0 final 0", "table 0 keeps paper [gold] 1 final 1",
                     "table 0 keeps auditor [] 1 final 1", "table 0 wears paper [] 1 final 1"):
            self.assertEqual(machine_of(text), EMPTY, text)
        self.assertEqual(machine_of("keeps", kind="guest"), EMPTY)
        self.assertEqual(machine_of("keeps", end="auditor"), EMPTY)

    def test_the_empty_word_is_no_word(self):
        self.assertEqual(machine_of("keeps?"), machine_of("keeps"))
        self.assertEqual(machine_of("@sees*"), machine_of("@sees"))
        self.assertEqual(machine_of("table 0 keeps paper [] 0 final 0"), machine_of("keeps"))

    def test_one_letter(self):
        self.assertEqual(machine_of("keeps"), ((((KEEPS, 1),), ()), 1))
        self.assertEqual(machine_of("any"), ((((KEEPS, 1),), ()), 1))
        self.assertEqual(machine_of("any", end="auditor"), ((((WEARS, 1),), ()), 1))
        self.assertEqual(machine_of("table 0 keeps paper [] 1 final 1"), ((((KEEPS, 1),), ()), 1))

    def test_kinds_and_ends(self):
        guest = machine_of("@sees", kind="guest")
        self.assertEqual(guest, ((((IN, 1), (GOLD, 1)), ((IN, 1), (GOLD, 1), (KEEPS, 2)), ()), 2))
        self.assertEqual(machine_of("any*", end="auditor"), ((((IN, 0), (GOLD, 0), (WEARS, 1)), ()), 1))
        book = Book(read("asker a; group g; thing s t; tie i from a g to g s t;"))
        for end, letter in (("s", ("i", "s", ())), ("t", ("i", "t", ()))):
            self.assertEqual(machine(book, "a", walk_of("i*"), end), ((((("i", "g", ()), 0), (letter, 1)), ()), 1))

    def test_ways_on_from_groups_alone(self):
        # Nothing leads on from the paper, so words end with it.
        self.assertEqual(machine_of("any any"), ((((IN, 1), (GOLD, 1)), ((KEEPS, 2),), ()), 2))

    def test_numbers_of_states(self):
        # The states are met row by row: those behind the first state before those behind the second one.
        found = machine_of("in[-gold] in in keeps | in[gold] keeps")
        self.assertEqual(found, ((((IN, 1), (GOLD, 2)), ((IN, 3), (GOLD, 3)), ((KEEPS, 4),), ((IN, 2), (GOLD, 2)), ()), 4))
        found = machine_of("in[-gold] in[-gold] keeps | in[gold] in in keeps | keeps")
        self.assertEqual(found, ((((IN, 1), (GOLD, 2), (KEEPS, 3)), ((IN, 4),), ((IN, 5), (GOLD, 5)), (), ((KEEPS, 3),),
                                  ((IN, 4), (GOLD, 4))), 3))

    def test_standings_count(self):
        # What may follow a gold team is another than what may follow other ones, though the walk is at the same places.
        box, team, gold = ("in", "box", ()), ("in", "team", ()), ("in", "team", ("gold",))
        found = machine(SMALL, "clerk", walk_of("any*"), "paper")
        paper = ("keeps", "paper", ())
        self.assertEqual(found, ((((box, 1), (team, 2), (paper, 3)), ((paper, 3),), ((box, 1), (team, 2)), ()), 3))
        self.assertFalse(takes(found, (gold, box, paper)))
        self.assertEqual(machine(SMALL, "clerk", ("named", "deep"), "boss"),
                         machine(SMALL, "clerk", walk_of("keeps | in keeps | in in keeps"), "boss"))

    def test_one_language_one_machine(self):
        for texts in (("in* keeps", "@sees", "(in | in in)* keeps", "in* in* keeps", "keeps | in+ keeps", "any* keeps",
                       "(in[gold] | in[-gold])* keeps", "any* any", "(in? )+ keeps", "((in*)*)* (keeps | wears)", "in* keeps?",
                       "table 0 in team [] 0 | 0 in team [gold] 0 | 0 keeps paper [] 5 final 5",
                       "table 3 in team [] 0 | 0 in team [] 3 | 3 in team [gold] 3 | 0 keeps paper [] 9 | 3 keeps paper [] 9 | "
                       "0 in team [gold] 0 | 0 in team [gold] 3 | 7 in team [] 8 final 9", "in* keeps in*", "@sees @sees?"),
                      ("in{2} keeps", "keeps | in keeps | in in keeps", "(in in? )? keeps", "in? in? keeps", "(in | in in)? keeps",
                       "table 0 in team [] 1 | 0 in team [gold] 1 | 1 in team [] 2 | 1 in team [gold] 2 | 0 keeps paper [] 3 | "
                       "1 keeps paper [] 3 | 2 keeps paper [] 3 final 3"),
                      ("@gilt", "in* in[gold] @sees", "in[-gold]* in[gold] in* keeps", "in* (in[gold])+ in* keeps"),
                      ("in in keeps", "in any keeps", "any any any")):
            machines = {machine_of(text) for text in texts}
            self.assertEqual(len(machines), 1, texts)
        self.assertEqual(len({machine_of(text) for text in ("@sees", "@gilt", "in in keeps", "keeps", "in+ keeps")}), 5)

    def test_marks(self):
        book = Book(read("asker a; group g; thing t; tag x on g; tag y on g; tie i from a g to g t; never i [x] to [y];"))
        paper = ("i", "t", ())
        groups = [("i", "g", marks) for marks in ((), ("x",), ("x", "y"), ("y",))]
        found = machine(book, "a", walk_of("i*"), "t")
        self.assertEqual(found, (((*[(letter, at) for letter, at in zip(groups, (0, 1, 1, 0))], (paper, 2)),
                                  ((groups[0], 0), (groups[1], 1), (paper, 2)), ()), 2))
        self.assertEqual(machine(book, "a", walk_of("i[x] i[y] i"), "t"), EMPTY)
        self.assertEqual(machine(book, "a", walk_of("i[y -x] i"), "t"), ((((groups[3], 1),), ((paper, 2),), ()), 2))

    def test_against_all_words(self):
        chance = random.Random(31)
        plain = Plain(SMALL.tree)
        signs = [letter for standing in (("clerk", ()), ("box", ())) for letter in letters(SMALL, standing)]
        empty = 0
        for turn in range(220):
            if turn < 150:
                walk = by_chance.fitting_walk(chance, 5, ("in", "keeps"), ("gold",), ("deep",))
            else:
                walk = by_chance.fitting_table(chance, signs, 4, chance.randint(2, 14))
            found = self.check_words(SMALL, plain, "clerk", walk, chance.choice(("paper", "boss")), 5)
            empty += found == EMPTY
        self.assertTrue(empty < 150, empty)

    def test_a_larger_book(self):
        chance = random.Random(32)
        plain = Plain(TOWN_BOOK.tree)
        for walk in (("named", "sees"), ("named", "gilt"), ("named", "far"), TOWN_BOOK.written(("named", "chart")),
                     ("named", "boxed"), *[by_chance.fitting_walk(chance, 4, ("in", "tops", "keeps"), ("gold", "old"))
                                           for _ in range(12)]):
            for kind, end in (("clerk", "paper"), ("guest", "boss"), ("guest", "memo"), ("clerk", "auditor")):
                self.check_words(TOWN_BOOK, plain, kind, walk, end, 3)

    def test_large_walks(self):
        for text in ("any any any any any any any keeps", "(in | any)* in[gold] any any any any keeps", "in{4} in{3} keeps"):
            self.check_form(machine_of(text))
        many = "|".join(f"{at} in team [] {at + 1} | {at} in team [gold] 0" for at in range(38)) + "| 38 keeps paper [] 39"
        found = machine_of(f"table {many} final 39")
        self.assertEqual(len(found[0]), 40)
        self.check_form(found)

    def test_the_same_twice(self):
        first = machine_of("@gilt")
        machine_of("@sees")
        self.assertEqual(machine_of("@gilt"), first)


class TakesTest(unittest.TestCase):
    def test_words(self):
        for word in ((KEEPS,), (IN, KEEPS), (GOLD, KEEPS), (IN, GOLD, IN, KEEPS), (*[IN] * 500, KEEPS)):
            self.assertIs(takes(SEES, word), True, word)
            self.assertIs(takes(GILT, word), GOLD in word, word)

    def test_beginnings(self):
        for word in ((), (IN,), (GOLD,), (IN, GOLD), (GOLD, IN)):
            self.assertIs(takes(SEES, word), False, word)
            self.assertIs(takes(GILT, word), False, word)

    def test_what_is_no_beginning(self):
        for word in ((KEEPS, KEEPS), (KEEPS, IN), (WEARS,), (IN, WEARS), (KEEPS, WEARS), (IN, WEARS, KEEPS)):
            self.assertIs(takes(SEES, word), False, word)
            self.assertIs(takes(GILT, word), False, word)

    def test_letters_that_are_none(self):
        for letter in (("in", "team", ("old",)), ("in", "team"), ("in", "team", (), ()), ("keeps", "team", ()), (), ("keeps",),
                       ("keeps", "paper", ("gold",)), ("none", "paper", ()), ("in", "team", ("gold", "gold"))):
            for word in ((letter,), (letter, KEEPS), (IN, letter), (IN, letter, KEEPS), (KEEPS, letter)):
                self.assertIs(takes(SEES, word), False, word)

    def test_empty_machine(self):
        for word in ((), (KEEPS,), (IN, KEEPS)):
            self.assertIs(takes(EMPTY, word), False, word)

    def test_only_words_of_the_book(self):
        found = machine(TOWN_BOOK, "clerk", ("named", "boxed"), "paper")
        for word in itertools.product(letters(TOWN_BOOK, ("clerk", ())), repeat=2):
            self.assertIs(takes(found, word), is_word(TOWN_BOOK, "clerk", "paper", word), word)


if __name__ == "__main__":
    unittest.main()
