"""Askers that reach all that another one reaches [30]."""

import random
import unittest

from leaveledger.books import Book
from leaveledger.peers import judge_peers, peers
from leaveledger.reading import read
from leaveledger.walked import walked
from leaveledger.worlds import world_of
from tests import chance as by_chance
from tests.junk import some_variants
from tests.plain import Plain
from tests.plainjudges import takes_peers
from tests.samples import EXAMPLE, TOWN

BOOK = Book(read(EXAMPLE))
TOWN_BOOK = Book(read(TOWN))
IN, GOLD, KEEPS, WEARS = ("in", "team", ()), ("in", "team", ("gold",)), ("keeps", "paper", ()), ("wears", "auditor", ())
NODES = [("ana", "clerk", ()), ("bob", "clerk", ()), ("cleo", "clerk", ()), ("gus", "guest", ()), ("blue", "team", ()),
         ("grey", "team", ()), ("red", "team", ("gold",)), ("memo", "paper", ()), ("leaf", "paper", ())]
LINKS = [("ana", "in", "blue"), ("ana", "in", "grey"), ("ana", "keeps", "memo"), ("bob", "in", "grey"), ("blue", "in", "red"),
         ("blue", "keeps", "leaf"), ("grey", "in", "red"), ("red", "keeps", "memo"), ("red", "wears", "auditor")]
WORLD = world_of(BOOK, NODES, LINKS)
TABLE = (("bob", ("ana",)), ("grey", ("blue", "grey")), ("red", ("red",)))


def judged(table, second="bob", first="ana", world=WORLD):
    return judge_peers(BOOK, world, second, first, table)


def words_from(plain, world, node, most):
    """All pairs of a word with at most so many letters and an end that is a thing or a badge, of paths from a node."""
    linked = plain.linked(world)
    names = {name for name, kind, _ in world[0] if kind in plain.groups}
    at, found = {((), node)}, set()
    for _ in range(most):
        at = {((*word, letter), end) for word, last in at for start, letter, end in linked if start == last}
        found |= {(word, end) for word, end in at if end not in names}
    return found


class PeersTest(unittest.TestCase):
    def check(self, book, world, second, first):
        """That a table shows what it should, or that the word is the least one of few letters."""
        plain = Plain(book.tree)
        missing = words_from(plain, world, second, 4) - words_from(plain, world, first, 4)
        found = peers(book, world, second, first)
        if found[0] == "within":
            self.assertEqual(missing, set())
            self.assertEqual(len(found), 2)
            self.assertEqual(list(found[1]), sorted(set(found[1])))
            self.assertIs(judge_peers(book, world, second, first, found[1]), True)
            self.assertIs(takes_peers(book, world, second, first, found[1]), True)
        elif len(found[1]) <= 4:
            self.assertEqual(found[1:], min(missing, key=lambda pair: (len(pair[0]), pair)))
        else:
            self.assertEqual(missing, set())
            walk = ("table", tuple((at, letter, at + 1) for at, letter in enumerate(found[1])), len(found[1]))
            self.assertIn(found[2], walked(book, world, walk, second))
            self.assertNotIn(found[2], walked(book, world, walk, first))
        return found[0]

    def test_an_asker_with_itself(self):
        for name in ("ana", "bob", "cleo", "gus"):
            self.assertEqual(self.check(BOOK, WORLD, name, name), "within")
        self.assertEqual(peers(BOOK, WORLD, "bob", "bob"), ("within", (("bob", ("bob",)), ("grey", ("grey",)), ("red", ("red",)))))

    def test_one_that_has_all_links_and_more(self):
        self.assertEqual(peers(BOOK, WORLD, "bob", "ana"), ("within", TABLE))
        self.assertEqual(peers(BOOK, WORLD, "ana", "bob"), ("beyond", (KEEPS,), "memo"))

    def test_one_without_links(self):
        self.assertEqual(peers(BOOK, WORLD, "cleo", "ana"), ("within", (("cleo", ("ana",)),)))
        self.assertEqual(peers(BOOK, WORLD, "gus", "cleo"), ("within", (("gus", ("cleo",)),)))
        self.assertEqual(peers(BOOK, WORLD, "bob", "cleo"), ("beyond", (IN, GOLD, KEEPS), "memo"))

    def test_links_by_which_nothing_is_reached(self):
        world = world_of(BOOK, NODES, [("ana", "in", "blue"), ("blue", "in", "grey"), ("grey", "in", "blue")])
        self.assertEqual(peers(BOOK, world, "ana", "cleo"), ("within", (("ana", ("cleo",)), ("blue", ()), ("grey", ()))))

    def test_the_least_word_and_its_first_end(self):
        links = [("ana", "in", "blue"), ("blue", "keeps", "memo"), ("blue", "keeps", "leaf"), ("blue", "wears", "auditor"),
                 ("ana", "in", "red"), ("red", "keeps", "leaf"), ("bob", "in", "red"), ("red", "wears", "auditor")]
        world = world_of(BOOK, NODES, links)
        self.assertEqual(peers(BOOK, world, "ana", "bob"), ("beyond", (IN, KEEPS), "leaf"))
        world = world_of(BOOK, NODES, [*links, ("bob", "in", "grey"), ("grey", "keeps", "leaf")])
        self.assertEqual(peers(BOOK, world, "ana", "bob"), ("beyond", (IN, KEEPS), "memo"))
        world = world_of(BOOK, NODES, [*links, ("bob", "in", "grey"), ("grey", "keeps", "leaf"), ("grey", "keeps", "memo")])
        self.assertEqual(peers(BOOK, world, "ana", "bob"), ("beyond", (IN, WEARS), "auditor"))
        self.assertEqual(peers(BOOK, world, "bob", "ana")[0], "within")

    def test_the_first_end_of_several_ways(self):
        # The word leads by two teams, and the first end comes by the second of them.
        links = [("ana", "in", "blue"), ("ana", "in", "grey"), ("blue", "keeps", "memo"), ("grey", "keeps", "leaf"), ("bob", "in", "red")]
        self.assertEqual(peers(BOOK, world_of(BOOK, NODES, links), "ana", "bob"), ("beyond", (IN, KEEPS), "leaf"))

    def test_fewer_letters_go_first(self):
        links = [("ana", "in", "blue"), ("blue", "in", "blue"), ("blue", "in", "red"), ("red", "in", "grey"), ("grey", "keeps", "leaf"),
                 ("bob", "in", "blue"), ("ana", "in", "red"), ("red", "keeps", "memo")]
        self.assertEqual(peers(BOOK, world_of(BOOK, NODES, links), "ana", "bob"), ("beyond", (GOLD, KEEPS), "memo"))

    def test_marks_count(self):
        links = [("ana", "in", "blue"), ("blue", "keeps", "memo"), ("bob", "in", "red"), ("red", "keeps", "memo")]
        world = world_of(BOOK, NODES, links)
        self.assertEqual(peers(BOOK, world, "ana", "bob"), ("beyond", (IN, KEEPS), "memo"))
        self.assertEqual(peers(BOOK, world, "bob", "ana"), ("beyond", (GOLD, KEEPS), "memo"))

    def test_several_together(self):
        # No single group of the first asker has both ends, but two of them have them together.
        links = [("ana", "in", "blue"), ("blue", "keeps", "memo"), ("ana", "in", "grey"), ("grey", "keeps", "leaf"),
                 ("bob", "in", "lime"), ("lime", "keeps", "memo"), ("lime", "keeps", "leaf")]
        world = world_of(BOOK, [*NODES, ("lime", "team", ())], links)
        self.assertEqual(peers(BOOK, world, "bob", "ana"), ("within", (("bob", ("ana",)), ("lime", ("blue", "grey")))))

    def test_against_all_words(self):
        chance = random.Random(121)
        nodes = [("a1", "clerk", ()), ("a2", "clerk", ()), ("a3", "guest", ()), ("r", "team", ("gold",)), ("s", "team", ("gold",)),
                 ("t", "team", ()), ("u", "team", ()), ("v", "box", ()), ("w", "box", ("old",)), ("p", "paper", ()), ("q", "memo", ())]
        seen = {"within": 0, "beyond": 0}
        for turn in range(150):
            world = by_chance.world(chance, TOWN_BOOK, nodes, chance.choice((40, 100)))
            if turn % 2:
                more = [("a1", tie, end) for start, tie, end in world[1] if start == "a2"]
                world = world_of(TOWN_BOOK, nodes, sorted({*world[1], *more}))
            for second, first in (("a1", "a2"), ("a2", "a1"), ("a3", "a1"), ("a1", "a3")):
                seen[self.check(TOWN_BOOK, world, second, first)] += 1
        self.assertTrue(min(seen.values()) > 50, seen)

    def test_every_walk_leads_the_first_one_there(self):
        chance = random.Random(122)
        for turn in range(60):
            walk = by_chance.fitting_walk(chance, 5, ("in", "keeps", "wears"), ("gold",), ("sees", "gilt"))
            ends = [set(walked(BOOK, WORLD, walk, name)) & {"memo", "leaf", "auditor"} for name in ("bob", "ana")]
            self.assertTrue(ends[0] <= ends[1])


class JudgeTest(unittest.TestCase):
    def test_right_ones(self):
        self.assertIs(judged(TABLE), True)
        # Pairs that are not needed, but held.
        for row in (("blue", ("blue",)), ("grey", ("blue",)), ("grey", ("grey",)), ("memo", ()), ("leaf", ("ana", "memo")),
                    ("cleo", ()), ("red", ("ana", "blue", "red"))):
            self.assertIs(judged(tuple(sorted((*TABLE, row)))), True, row)

    def test_pairs_that_are_not_held(self):
        for row in (("blue", ("grey",)), ("red", ()), ("grey", ()), ("ana", ("bob",)), ("red", ("blue", "grey")), ("bob", ())):
            self.assertIs(judged(tuple(sorted((*TABLE, row)))), False, row)

    def test_a_pair_left_out(self):
        for at in range(len(TABLE)):
            self.assertIs(judged(TABLE[:at] + TABLE[at + 1:]), False, at)
        self.assertIs(judged(()), False)

    def test_several_ends_of_one_letter(self):
        both = ("blue", "grey")
        table = (("ana", ("ana",)), ("blue", both), ("grey", both), ("red", ("red",)))
        self.assertIs(judged(table, "ana", "ana"), True)
        for at in range(len(table)):
            self.assertIs(judged(table[:at] + table[at + 1:], "ana", "ana"), False, at)

    def test_nodes_that_do_not_ascend(self):
        # The pairs are not needed, so nothing else is wrong with them.
        for rivals in (("bob", "ana"), ("ana", "ana"), ["ana"], "ana", ("ana", 0), (("ana",),)):
            self.assertIs(judged(tuple(sorted((*TABLE, ("cleo", rivals)), key=lambda row: row[0]))), False, rivals)
        self.assertIs(judged(tuple(sorted((*TABLE, ("cleo", ("ana", "bob")))))), True)

    def test_order(self):
        self.assertIs(judged(TABLE[::-1]), False)
        self.assertIs(judged((TABLE[0], *TABLE)), False)
        self.assertIs(judged((TABLE[0], ("grey", ("grey", "blue")), TABLE[2])), False)
        self.assertIs(judged((TABLE[0], ("grey", ("blue", "blue", "grey")), TABLE[2])), False)

    def test_nodes_left_out_or_put_in(self):
        for rivals in (("blue",), ("grey",), (), ("blue", "grey", "red"), ("ana", "blue", "grey")):
            self.assertIs(judged((TABLE[0], ("grey", rivals), TABLE[2])), False, rivals)
        self.assertIs(judged((("bob", ("ana", "bob")), *TABLE[1:])), False)

    def test_names_that_are_no_nodes(self):
        for row in (("nobody", ()), ("zz0", ()), ("auditor", ()), ("blue", ("auditor", "blue")), ("blue", ("blue", "nobody"))):
            self.assertIs(judged(tuple(sorted((*TABLE, row)))), False, row)

    def test_other_askers(self):
        self.assertIs(judged(TABLE, "ana", "bob"), False)
        self.assertIs(judged(TABLE, "bob", "bob"), False)
        self.assertIs(judged(TABLE, "cleo", "ana"), False)
        self.assertIs(judged((("cleo", ("ana",)),), "cleo", "ana"), True)
        self.assertIs(judged((("ana", ("bob",)), ("grey", ("grey",)), ("red", ("red",))), "ana", "bob"), False)

    def test_whatever_stands_there(self):
        chance = random.Random(123)
        for other in some_variants(chance, TABLE, 3000):
            self.assertIs(judged(other), takes_peers(BOOK, WORLD, "bob", "ana", other), other)


if __name__ == "__main__":
    unittest.main()
