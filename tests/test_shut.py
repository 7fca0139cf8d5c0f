"""Papers that show that no path leads from a node to an end [28]."""

import random
import unittest

from leaveledger.books import Book
from leaveledger.errors import NoName
from leaveledger.places import Places
from leaveledger.reading import read
from leaveledger.shut import judge_shut, shut
from leaveledger.walked import walked
from leaveledger.worlds import world_of
from tests import chance as by_chance
from tests.junk import some_variants
from tests.plainjudges import takes_shut
from tests.samples import EXAMPLE
from tests.test_reach import ENDS, STARTS
from tests.test_walked import BOOK as TOWN_BOOK, NODES, WORLD as TOWN_WORLD

BOOK = Book(read(EXAMPLE))
WORLD = world_of(
    BOOK,
    [("ana", "clerk", ()), ("bob", "clerk", ()), ("red", "team", ("gold",)), ("blue", "team", ()), ("grey", "team", ()),
     ("memo", "paper", ()), ("leaf", "paper", ())],
    [("ana", "in", "red"), ("bob", "in", "blue"), ("blue", "in", "grey"), ("grey", "in", "blue"), ("blue", "keeps", "memo"),
     ("red", "keeps", "memo"), ("grey", "wears", "auditor"), ("bob", "keeps", "leaf")],
)
SEES, GILT = ("named", "sees"), ("named", "gilt")
# Of gilt bob's links reach the places 1 and 3 alone, never one behind a gold team.
PAPER = (("blue", (1,)), ("bob", (0,)), ("grey", (1,)))


def walk_of(text):
    return read(f"walk w = {text} ;")[0][2]


def judged(paper, walk=GILT, node="bob", end="memo"):
    return judge_shut(BOOK, WORLD, walk, node, end, paper)


class ShutTest(unittest.TestCase):
    def check(self, walk, node, end, book=BOOK, world=WORLD):
        paper = shut(book, world, walk, node, end)
        if end in walked(book, world, walk, node):
            self.assertIsNone(paper)
            return False
        size = Places(book, walk).size
        names = [name for name, _ in paper]
        self.assertEqual(names, sorted(set(names)))
        self.assertTrue(set(names) <= {row[0] for row in world[0]})
        for _, places in paper:
            self.assertTrue(places and list(places) == sorted(set(places)) and 0 <= places[0] and places[-1] <= size)
        self.assertIs(judge_shut(book, world, walk, node, end, paper), True)
        self.assertIs(takes_shut(book, world, walk, node, end, paper), True)
        return True

    def test_example(self):
        self.assertIsNone(shut(BOOK, WORLD, GILT, "ana", "memo"))
        self.assertIsNone(shut(BOOK, WORLD, SEES, "bob", "memo"))
        self.assertEqual(shut(BOOK, WORLD, GILT, "bob", "memo"), PAPER)

    def test_where_a_path_leads(self):
        for text, node, end in (("in*", "bob", "bob"), ("in+", "blue", "blue"), ("in+", "grey", "blue"), ("any+", "bob", "auditor"),
                                ("keeps", "bob", "leaf"), ("any{4}", "ana", "memo"), ("table final 0", "red", "red")):
            self.assertIsNone(shut(BOOK, WORLD, walk_of(text), node, end), text)

    def test_where_none_leads(self):
        for text, node, end in (("in+", "bob", "bob"), ("in", "blue", "blue"), ("any+", "ana", "auditor"), ("any+", "ana", "leaf"),
                                ("in*", "ana", "memo"), ("keeps in", "bob", "leaf"), ("table final -", "red", "red"),
                                ("any*", "ana", "nobody"), ("any*", "ana", "zz7"), ("any*", "ana", "bob")):
            self.assertTrue(self.check(walk_of(text), node, end), text)

    def test_no_name(self):
        for node in ("memo", "auditor", "nobody", "zz0", ""):
            with self.assertRaises(NoName) as caught:
                shut(BOOK, WORLD, SEES, node, "memo")
            self.assertEqual(caught.exception.name, node)
            with self.assertRaises(NoName):
                shut(BOOK, WORLD, walk_of("in*"), node, node)

    def test_by_chance(self):
        chance = random.Random(101)
        seen = {False: 0, True: 0}
        for turn in range(40):
            world = TOWN_WORLD if turn < 10 else by_chance.world(chance, TOWN_BOOK, NODES, 150)
            walk = by_chance.town_walk(chance, TOWN_BOOK)
            for node in STARTS:
                for end in ENDS:
                    seen[self.check(walk, node, end, TOWN_BOOK, world)] += 1
        self.assertTrue(min(seen.values()) > 200, seen)


class JudgeTest(unittest.TestCase):
    def test_right_ones(self):
        self.assertIs(judged(PAPER), True)
        # More places than are reached, and more nodes.
        self.assertIs(judged((("blue", (1,)), ("bob", (0, 1)), ("grey", (1,)))), True)
        self.assertIs(judged((("ana", (4,)), *PAPER, ("memo", (0, 1, 2, 3, 4)))), True)
        self.assertIs(judged((("blue", (1, 2)), ("bob", (0,)), ("grey", (1, 3))), end="leaf"), False)
        self.assertIs(judged((("blue", (1, 3)), ("bob", (0,)), ("grey", (1, 3)), ("memo", (4,))), end="leaf"), True)
        self.assertIs(judged((("blue", (1, 2)), ("bob", (0,)), ("grey", (1, 3)), ("memo", (4,))), end="leaf"), False)

    def test_a_pair_left_out(self):
        for at in range(len(PAPER)):
            self.assertIs(judged(PAPER[:at] + PAPER[at + 1:]), False, at)
        self.assertIs(judged(()), False)

    def test_a_place_left_out(self):
        paper = shut(BOOK, WORLD, walk_of("(in in)+ wears"), "bob", "auditor")
        self.assertIsNone(paper)
        paper = shut(BOOK, WORLD, walk_of("in (in in)+ wears"), "bob", "auditor")
        walk = walk_of("in (in in)+ wears")
        self.assertIs(judged(paper, walk, end="auditor"), True)
        for at, (name, places) in enumerate(paper):
            for place in range(len(places)):
                fewer = (*paper[:at], (name, places[:place] + places[place + 1:]), *paper[at + 1:])
                self.assertIs(judged(fewer, walk, end="auditor"), False, (name, place))

    def test_a_last_place_at_the_end(self):
        self.assertIs(judged((("blue", (1, 3)), ("bob", (0,)), ("grey", (1, 3)), ("memo", (4,)))), False)
        self.assertIs(judged((("blue", (1, 3)), ("bob", (0,)), ("grey", (1, 3)), ("memo", (4,))), end="leaf"), True)
        # The end may be there with a last place if no link leads to it with one.
        self.assertIs(judged((*PAPER, ("memo", (4,)))), True)

    def test_ends_that_are_badges(self):
        walk = walk_of("in* wears")
        self.assertIsNone(shut(BOOK, WORLD, walk, "bob", "auditor"))
        self.assertIs(judged((("blue", (1,)), ("bob", (0,)), ("grey", (1,))), walk, end="auditor"), False)
        self.assertIs(judged((("blue", (1,)), ("bob", (0,)), ("grey", (1,))), walk, end="memo"), True)
        # What is no node is in no paper.
        self.assertIs(judged((("auditor", (2,)), ("blue", (1,)), ("bob", (0,)), ("grey", (1,))), walk), False)

    def test_node_and_end_the_same(self):
        for text, truth in (("in*", False), ("in+", True), ("in?", False), ("in in?", True), ("table final 0", False),
                            ("table final 1", True), ("table final -", True)):
            self.assertIs(judged((("ana", (0,)), ("red", (1,))) if text[0] == "i" else (("ana", (0,)),), walk_of(text), "ana", "ana"), truth, text)
        self.assertIs(judged((("blue", (0, 1)), ("grey", (1,)), ("memo", (0,))), walk_of("in+"), "blue", "blue"), False)
        self.assertIs(judged((("blue", (0, 1)), ("grey", (1,))), walk_of("in+"), "blue", "memo"), True)

    def test_order(self):
        self.assertIs(judged(PAPER[::-1]), False)
        self.assertIs(judged((PAPER[0], *PAPER)), False)
        self.assertIs(judged((("blue", (1,)), ("blue", (1, 2)), ("bob", (0,)), ("grey", (1,)))), False)
        self.assertIs(judged((("blue", (1,)), ("bob", (1, 0)), ("grey", (1,)))), False)
        self.assertIs(judged((("blue", (1, 1)), ("bob", (0,)), ("grey", (1,)))), False)

    def test_places_that_the_walk_does_not_have(self):
        for place in (5, -1, 99999, True, False, None, "1"):
            self.assertIs(judged((("blue", (1, place)), ("bob", (0,)), ("grey", (1,)))), False, place)
        self.assertIs(judged((("blue", (1,)), ("bob", (False,)), ("grey", (1,)))), False)
        self.assertIs(judged((("blue", (True,)), ("bob", (0,)), ("grey", (1,)))), False)
        self.assertIs(judged((("blue", ()), *PAPER)), False)
        self.assertIs(judged((*PAPER, ("memo", ()))), False)

    def test_nodes_that_are_not_there(self):
        for name in ("auditor", "nobody", "zz0", "a", ""):
            self.assertIs(judged(tuple(sorted((*PAPER, (name, (1,)))))), False, name)
        self.assertIs(judged(PAPER, node="nobody"), False)
        self.assertIs(judged(PAPER, node="ana"), False)
        self.assertIs(judged((), node="nobody"), False)
        self.assertIs(judged(PAPER, end="nobody"), True)

    def test_no_error_for_things(self):
        # From a thing nothing leads on, so only the empty word is in question.
        self.assertIs(judged((("memo", (0,)),), walk_of("in+"), "memo", "leaf"), True)
        self.assertIs(judged((("memo", (0,)),), walk_of("in*"), "memo", "memo"), False)
        self.assertIs(judged((), walk_of("in*"), "memo", "leaf"), False)

    def test_whatever_stands_there(self):
        chance = random.Random(102)
        for walk, node, end in ((GILT, "bob", "memo"), (walk_of("in+"), "blue", "bob"), (walk_of("in (in in)+ wears"), "bob", "auditor")):
            paper = shut(BOOK, WORLD, walk, node, end)
            for other in some_variants(chance, paper, 2000):
                self.assertIs(judged(other, walk, node, end), takes_shut(BOOK, WORLD, walk, node, end, other), other)

    def test_papers_by_chance(self):
        chance = random.Random(103)
        seen = {False: 0, True: 0}
        for turn in range(300):
            walk = by_chance.fitting_walk(chance, 4, ("in", "keeps"), ("gold",), ("sees", "gilt"))
            size = Places(BOOK, walk).size
            node, end = chance.choice(("ana", "bob", "blue")), chance.choice(("memo", "leaf", "auditor", "blue"))
            right = dict(shut(BOOK, WORLD, walk, node, end) or ((node, (0,)),))
            for _ in range(chance.randint(0, 2)):
                name = chance.choice(WORLD[0])[0]
                right[name] = tuple(sorted({*right.get(name, ()), chance.randint(0, size)}))
            paper = tuple(sorted(right.items()))
            found = judged(paper, walk, node, end)
            self.assertIs(found, takes_shut(BOOK, WORLD, walk, node, end, paper), (walk, node, end, paper))
            if found:
                self.assertNotIn(end, walked(BOOK, WORLD, walk, node))
            seen[found] += 1
        self.assertTrue(min(seen.values()) > 40, seen)


if __name__ == "__main__":
    unittest.main()
