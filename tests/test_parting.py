"""Worlds of a single path, and the least words that tell walks and machines apart [23]."""

import random
import unittest

from leaveledger.books import Book
from leaveledger.letters import is_word
from leaveledger.machines import machine
from leaveledger.parting import machine_parting, parting, path_world
from leaveledger.reading import read
from leaveledger.walked import walked
from leaveledger.worlds import is_world, world_of
from tests import chance as by_chance
from tests.plain import Plain, all_words
from tests.samples import EXAMPLE, SMALL, TOWN

BOOK = Book(read(EXAMPLE))
TOWN_BOOK = Book(read(TOWN))
SMALL_BOOK = Book(read(SMALL))
IN, GOLD, KEEPS, WEARS = ("in", "team", ()), ("in", "team", ("gold",)), ("keeps", "paper", ()), ("wears", "auditor", ())


def walk_of(text):
    return read(f"walk w = {text} ;")[0][2]


class PathWorldTest(unittest.TestCase):
    def test_one_letter(self):
        self.assertEqual(path_world(BOOK, "clerk", (KEEPS,)),
                         ((("zz0", "clerk", ()), ("zz1", "paper", ())), (("zz0", "keeps", "zz1"),), ()))
        self.assertEqual(path_world(BOOK, "clerk", (WEARS,)), ((("zz0", "clerk", ()),), (("zz0", "wears", "auditor"),), ()))

    def test_many_letters(self):
        self.assertEqual(path_world(BOOK, "guest", (IN, GOLD, KEEPS)), (
            (("zz0", "guest", ()), ("zz1", "team", ()), ("zz2", "team", ("gold",)), ("zz3", "paper", ())),
            (("zz0", "in", "zz1"), ("zz1", "in", "zz2"), ("zz2", "keeps", "zz3")), ()))
        self.assertEqual(path_world(BOOK, "guest", (GOLD, WEARS)), (
            (("zz0", "guest", ()), ("zz1", "team", ("gold",))), (("zz0", "in", "zz1"), ("zz1", "wears", "auditor")), ()))

    def test_numbers_are_all_there(self):
        word = (("in", "team", ()), ("keeps", "paper", ()))
        nodes, links, numbers = path_world(TOWN_BOOK, "clerk", word)
        self.assertEqual(nodes, (("zz0", "clerk", ()), ("zz1", "team", ()), ("zz2", "paper", ())))
        self.assertEqual(numbers, (("zz0", "level", 0), ("zz2", "level", 0), ("zz2", "size", 0)))

    def test_numbers_ascend(self):
        book = Book(read("asker a; thing t; number z on t; number b on t a; number y on a; tie i from a to t;"))
        self.assertEqual(path_world(book, "a", (("i", "t", ()),))[2],
                         (("zz0", "b", 0), ("zz0", "y", 0), ("zz1", "b", 0), ("zz1", "z", 0)))

    def test_names_ascend_as_strings(self):
        nodes, links, _ = path_world(BOOK, "clerk", (*[IN] * 10, KEEPS))
        self.assertEqual([node[0] for node in nodes], ["zz0", "zz1", "zz10", "zz11", *[f"zz{at}" for at in range(2, 10)]])
        self.assertEqual(links, tuple(sorted(links)))
        self.assertIn(("zz9", "in", "zz10"), links)
        self.assertIn(("zz10", "keeps", "zz11"), links)

    def test_are_worlds(self):
        for book in (BOOK, TOWN_BOOK, SMALL_BOOK):
            plain = Plain(book.tree)
            for kind in plain.declared("asker"):
                for end in plain.declared("thing") + plain.declared("badge"):
                    for word in all_words(book, kind, end, 3):
                        world = path_world(book, kind, word)
                        self.assertIs(is_world(book, world), True, word)
                        self.assertEqual(world_of(book, world[0][::-1], world[1][::-1]), world)
                        self.assertEqual(len(world[1]), len(word))

    def test_more_nodes_than_a_world_has(self):
        self.assertIs(is_world(BOOK, path_world(BOOK, "clerk", (*[IN] * 58, KEEPS))), True)
        world = path_world(BOOK, "clerk", (*[IN] * 59, KEEPS))
        self.assertEqual(len(world[0]), 61)
        self.assertIs(is_world(BOOK, world), False)

    def test_the_walk_leads_there_exactly_by_its_words(self):
        chance = random.Random(51)
        plain = Plain(SMALL_BOOK.tree)
        ties = {False: 0, True: 0}
        for end in ("paper", "boss"):
            words = all_words(SMALL_BOOK, "clerk", end, 4)
            for _ in range(25):
                walk = by_chance.fitting_walk(chance, 5, ("in", "keeps"), ("gold",), ("deep",))
                for word in words:
                    world = path_world(SMALL_BOOK, "clerk", word)
                    goal = end if end == "boss" else f"zz{len(word)}"
                    leads = goal in walked(SMALL_BOOK, world, walk, "zz0")
                    self.assertIs(leads, plain.has_word(walk, word), (walk, word))
                    ties[leads] += 1
        self.assertTrue(min(ties.values()) > 50, ties)


class PartingTest(unittest.TestCase):
    def check(self, first, second, word, kind="clerk", end="paper", book=BOOK):
        walks = [walk_of(text) if isinstance(text, str) else text for text in (first, second)]
        machines = [machine(book, kind, walk, end) for walk in walks]
        for walk, other in (walks, walks[::-1]):
            self.assertEqual(parting(book, kind, walk, other, end), word, (first, second))
        for one, other in (machines, machines[::-1]):
            self.assertEqual(machine_parting(one, other), word, (first, second))

    def test_example(self):
        self.check("@sees", "@gilt", (KEEPS,))
        self.check("@sees", "@sees", None)
        self.check("@gilt", "@gilt", None)

    def test_one_language_written_differently(self):
        table = "table 0 in team [] 0 | 0 in team [gold] 0 | 0 keeps paper [] 1 final 1"
        for text in ("in* keeps", "(in | in in)* keeps", "keeps | in{4} keeps | in in in in in+ keeps", "any* keeps",
                     "in[gold]* @sees", "in{1} @sees | keeps", table):
            self.check("@sees", text, None)
            self.check("@sees", f"{text} | keeps" if text != table else text, None)

    def test_words_of_which_one_has_more(self):
        self.check("@sees", "in{2} keeps", (IN, IN, IN, KEEPS))
        self.check("in{3} keeps", "in{2} keeps", (IN, IN, IN, KEEPS))
        self.check("@sees", "in* keeps | wears", None)
        self.check("@sees", "in* (keeps | wears)", (WEARS,), end="auditor")
        self.check("in[gold] keeps", "in keeps", (IN, KEEPS))
        self.check("in[-gold] keeps", "in keeps", (GOLD, KEEPS))

    def test_each_has_more(self):
        self.check("in[gold] keeps", "in[-gold] keeps", (IN, KEEPS))
        self.check("in[gold] in keeps", "in in[gold] keeps", (IN, GOLD, KEEPS))

    def test_the_fewest_letters_go_first(self):
        # The word with fewer letters comes later in the order of tuples.
        self.check("in in in keeps | in[gold] keeps", "in in[gold] in keeps", (GOLD, KEEPS))

    def test_no_words(self):
        self.check("in", "wears", None)
        self.check("in", "table final -", None)
        self.check("in", "@sees", (KEEPS,))
        self.check("@sees", "@gilt", None, end="auditor")
        self.check("keeps", "wears", None, kind="guest")
        self.check("@sees", "wears", (IN, KEEPS), kind="guest")
        self.check("in?", "in*", None)

    def test_the_empty_word_is_no_word(self):
        self.check("keeps?", "keeps", None)
        self.check("@sees*", "@sees", None)

    def test_against_all_words(self):
        chance = random.Random(52)
        plain = Plain(SMALL_BOOK.tree)
        seen = {None: 0}
        for turn in range(250):
            walks = [by_chance.small_walk(chance, SMALL_BOOK) for _ in range(2)]
            end = chance.choice(("paper", "boss"))
            words = all_words(SMALL_BOOK, "clerk", end, 5)
            apart = [word for word in words if plain.has_word(walks[0], word) != plain.has_word(walks[1], word)]
            least = min(apart, key=lambda word: (len(word), word)) if apart else None
            found = parting(SMALL_BOOK, "clerk", *walks, end)
            if found is not None and len(found) > 5:
                self.assertIsNone(least)
                self.assertIs(is_word(SMALL_BOOK, "clerk", end, found), True)
                self.assertNotEqual(plain.has_word(walks[0], found), plain.has_word(walks[1], found))
            else:
                self.check(*walks, least, end=end, book=SMALL_BOOK)
            length = found and len(found)
            seen[length] = seen.get(length, 0) + 1
        self.assertTrue(seen[None] > 10 and len(seen) > 3, seen)

    def test_long_words(self):
        rings = [("table", (*[(at, IN, (at + 1) % many) for at in range(many)], (many - 1, KEEPS, 39)), 39) for many in (7, 11)]
        self.check(*rings, (*[IN] * 6, KEEPS))
        both = ("table", (*rings[0][1], (0, IN, 7), *[(at + 7, IN, (at + 1) % 11 + 7) for at in range(11)]), 39)
        self.check(both, rings[0], None)


if __name__ == "__main__":
    unittest.main()
