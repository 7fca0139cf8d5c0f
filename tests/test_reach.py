"""Where walks lead, in how many steps, by which path, and from where they come [27]."""

import itertools
import random
import unittest

from leaveledger.back import comers
from leaveledger.books import Book
from leaveledger.errors import LimitError, NoName
from leaveledger.reach import reached, steps_to
from leaveledger.reading import read
from leaveledger.shortest import shortest
from leaveledger.walked import walked
from leaveledger.worlds import world_of
from tests import chance as by_chance
from tests.test_walked import BOOK, NODES, PLAIN, WORLD, walk_of

STARTS = [name for name, kind, _ in NODES if kind in ("clerk", "guest", "team", "box")]
ENDS = [name for name, _, _ in NODES] + ["auditor", "boss"]


def paths_from(world, node, most):
    """All paths with at most so many steps, those with fewer first, among these in their order, each with its end."""
    found = [((), node)]
    for path, last in found:
        if len(path) < most:
            found += [((*path, (tie, end)), end) for start, tie, end in world[1] if start == last]
    return sorted(found, key=lambda row: (len(row[0]), row[0]))


def word_of(world, path):
    nodes = {name: (kind, tags if kind in PLAIN.groups else ()) for name, kind, tags in world[0]}
    return tuple((tie, *nodes.get(end, (end, ()))) for tie, end in path)


class ReachedTest(unittest.TestCase):
    def test_some(self):
        self.assertEqual(reached(BOOK, WORLD, walk_of("in"), "blue"), ("grey", "red"))
        self.assertEqual(reached(BOOK, WORLD, walk_of("@sees"), "ana"), ("auditor", "leaf", "memo", "sheet"))
        self.assertEqual(reached(BOOK, WORLD, walk_of("in*"), "ana"), ("ana", "blue", "case", "grey", "red"))
        self.assertEqual(reached(BOOK, WORLD, walk_of("in+"), "ana"), ("blue", "case", "grey", "red"))
        self.assertEqual(reached(BOOK, WORLD, walk_of("any{2}"), "pile"), ("boss", "pile", "sheet"))
        self.assertEqual(reached(BOOK, WORLD, walk_of("in"), "case"), ())
        self.assertEqual(reached(BOOK, WORLD, ("named", "chart"), "bob"), ("sheet",))
        self.assertEqual(reached(BOOK, WORLD, walk_of("table final 0"), "bob"), ("bob",))
        self.assertEqual(reached(BOOK, WORLD, walk_of("table final -"), "bob"), ())

    def test_the_same_as_walked(self):
        chance = random.Random(91)
        for turn in range(60):
            world = WORLD if turn < 20 else by_chance.world(chance, BOOK, NODES, 150)
            walk = by_chance.town_walk(chance, BOOK)
            for node in STARTS:
                self.assertEqual(reached(BOOK, world, walk, node), walked(BOOK, world, walk, node), (walk, node))
                self.assertEqual(reached(BOOK, world, walk, node), PLAIN.walked(world, walk, node))

    def test_walks_that_are_passed(self):
        for text in ("@sees", "@sees | @gilt", "(@far){2}", "@boxed", "in{4} keeps"):
            self.assertEqual(reached(BOOK, WORLD, walk_of(text), "ana"), walked(BOOK, WORLD, walk_of(text), "ana"))
            self.assertEqual(reached(BOOK, WORLD, BOOK.written(walk_of(text)), "ana"), walked(BOOK, WORLD, walk_of(text), "ana"))


class StepsToTest(unittest.TestCase):
    def test_some(self):
        self.assertEqual(steps_to(BOOK, WORLD, walk_of("@sees"), "ana"), (("auditor", 3), ("leaf", 1), ("memo", 3), ("sheet", 3)))
        self.assertEqual(steps_to(BOOK, WORLD, walk_of("in*"), "ana"), (("ana", 0), ("blue", 1), ("case", 3), ("grey", 2), ("red", 2)))
        self.assertEqual(steps_to(BOOK, WORLD, walk_of("(in in)+"), "blue"), (("blue", 2), ("case", 2), ("red", 2)))
        self.assertEqual(steps_to(BOOK, WORLD, walk_of("in in in+"), "red"), (("red", 3),))
        self.assertEqual(steps_to(BOOK, WORLD, walk_of("keeps"), "case"), ())

    def test_most(self):
        walk = walk_of("@sees")
        found = steps_to(BOOK, WORLD, walk, "ana")
        for most in range(6):
            self.assertEqual(steps_to(BOOK, WORLD, walk, "ana", most=most), tuple(row for row in found if row[1] <= most))
        self.assertEqual(steps_to(BOOK, WORLD, walk, "ana", most=None), found)
        self.assertEqual(steps_to(BOOK, WORLD, walk, "ana", most=0), ())
        self.assertEqual(steps_to(BOOK, WORLD, walk_of("in*"), "ana", most=0), (("ana", 0),))
        self.assertEqual(steps_to(BOOK, WORLD, walk_of("in*"), "ana", most=10 ** 6), steps_to(BOOK, WORLD, walk_of("in*"), "ana"))

    def test_most_is_passed_by_name(self):
        with self.assertRaises(TypeError):
            steps_to(BOOK, WORLD, walk_of("in"), "ana", 3)

    def test_against_all_paths(self):
        chance = random.Random(92)
        for turn in range(60):
            world = by_chance.world(chance, BOOK, NODES, 150)
            walk = by_chance.fitting_walk(chance, 4, ("in", "tops", "keeps"), ("gold", "old"), ("sees", "gilt"))
            node = chance.choice(STARTS)
            fewest = {}
            for path, end in paths_from(world, node, 4):
                if end not in fewest and PLAIN.has_word(walk, word_of(world, path)):
                    fewest[end] = len(path)
            for most in (4, 2, 1, 0):
                expected = tuple(sorted((end, steps) for end, steps in fewest.items() if steps <= most))
                self.assertEqual(steps_to(BOOK, world, walk, node, most=most), expected)
            found = steps_to(BOOK, world, walk, node)
            self.assertEqual(tuple(row for row in found if row[1] <= 4), tuple(sorted(fewest.items())))
            self.assertEqual(tuple(end for end, _ in found), walked(BOOK, world, walk, node))


class ShortestTest(unittest.TestCase):
    def test_some(self):
        self.assertEqual(shortest(BOOK, WORLD, walk_of("@sees"), "ana", "sheet"), (("in", "blue"), ("in", "red"), ("keeps", "sheet")))
        self.assertEqual(shortest(BOOK, WORLD, walk_of("@sees"), "ana", "leaf"), (("keeps", "leaf"),))
        self.assertEqual(shortest(BOOK, WORLD, walk_of("@sees"), "ana", "auditor"), (("in", "blue"), ("in", "grey"), ("keeps", "auditor")))
        self.assertEqual(shortest(BOOK, WORLD, walk_of("in in in+"), "red", "red"), (("in", "red"),) * 3)
        self.assertEqual(shortest(BOOK, WORLD, walk_of("any+"), "bob", "sheet"), (("in", "red"), ("keeps", "sheet")))
        self.assertEqual(shortest(BOOK, WORLD, walk_of("tops+"), "bob", "sheet"), (("tops", "pile"), ("tops", "sheet")))

    def test_none(self):
        for node, end in (("ana", "pile"), ("ana", "boss"), ("case", "leaf"), ("ana", "nobody"), ("ana", "zz3"), ("ana", "bob")):
            self.assertIsNone(shortest(BOOK, WORLD, walk_of("any+"), node, end), (node, end))
        self.assertIsNone(shortest(BOOK, WORLD, walk_of("any+"), "ana", "ana"))
        self.assertIsNone(shortest(BOOK, WORLD, walk_of("table final -"), "ana", "ana"))

    def test_no_steps(self):
        self.assertEqual(shortest(BOOK, WORLD, walk_of("in*"), "ana", "ana"), ())
        self.assertEqual(shortest(BOOK, WORLD, walk_of("in?"), "red", "red"), ())
        self.assertEqual(shortest(BOOK, WORLD, walk_of("in+"), "red", "red"), (("in", "red"),))
        self.assertEqual(shortest(BOOK, WORLD, walk_of("table 0 in team [gold] 0 final 0"), "red", "red"), ())

    def test_the_first_of_the_shortest(self):
        nodes = [("ana", "clerk", ()), *[(name, "team", ()) for name in "bcdefg"], ("p", "paper", ()), ("x", "box", ())]
        links = [("ana", "in", "c"), ("ana", "in", "b"), ("b", "in", "g"), ("c", "in", "d"), ("g", "keeps", "p"), ("d", "keeps", "p"),
                 ("c", "in", "x"), ("x", "tops", "p")]
        world = world_of(BOOK, nodes, links)
        self.assertEqual(shortest(BOOK, world, walk_of("any*"), "ana", "p"), (("in", "b"), ("in", "g"), ("keeps", "p")))
        world = world_of(BOOK, nodes, [link for link in links if link != ("b", "in", "g")])
        self.assertEqual(shortest(BOOK, world, walk_of("any*"), "ana", "p"), (("in", "c"), ("in", "d"), ("keeps", "p")))
        self.assertEqual(shortest(BOOK, world, walk_of("any* tops"), "ana", "p"), (("in", "c"), ("in", "x"), ("tops", "p")))

    def test_the_first_one_by_other_places(self):
        # One word leads to two places at once, and the path by the later place comes first.
        nodes = [("ana", "clerk", ()), *[(name, "team", ()) for name in "bcd"], ("p", "paper", ()), ("q", "paper", ())]
        links = [("ana", "in", "b"), ("b", "in", "c"), ("b", "in", "d"), ("c", "keeps", "p"), ("d", "keeps", "p")]
        world = world_of(BOOK, nodes, links)
        team, paper = ("in", "team", ()), ("keeps", "paper", ())
        walk = ("table", ((0, team, 1), (0, team, 2), (1, team, 3), (2, team, 4), (3, paper, 5), (4, paper, 5)), 5)
        self.assertEqual(shortest(BOOK, world, walk, "ana", "p"), (("in", "b"), ("in", "c"), ("keeps", "p")))

    def test_against_all_paths(self):
        chance = random.Random(93)
        seen = {}
        for turn in range(120):
            world = by_chance.world(chance, BOOK, NODES, 150)
            walk = by_chance.town_walk(chance, BOOK)
            node = chance.choice(STARTS)
            first = {}
            for path, end in paths_from(world, node, 4):
                if end not in first and PLAIN.has_word(walk, word_of(world, path)):
                    first[end] = path
            fewest = dict(steps_to(BOOK, world, walk, node))
            for end in ENDS:
                found = shortest(BOOK, world, walk, node, end)
                self.assertEqual(found is None, end not in fewest)
                if found is not None:
                    self.assertEqual(len(found), fewest[end])
                    seen[len(found)] = seen.get(len(found), 0) + 1
                if end in first or found is not None and len(found) <= 4:
                    self.assertEqual(found, first[end], (walk, node, end))
        self.assertTrue(set(seen) >= {0, 1, 2, 3}, seen)


class ComersTest(unittest.TestCase):
    def test_some(self):
        self.assertEqual(comers(BOOK, WORLD, walk_of("@sees"), "sheet"), ("ana", "blue", "bob", "grey", "red"))
        self.assertEqual(comers(BOOK, WORLD, walk_of("keeps"), "auditor"), ("grey",))
        self.assertEqual(comers(BOOK, WORLD, walk_of("in* keeps"), "auditor"), ("ana", "blue", "grey"))
        self.assertEqual(comers(BOOK, WORLD, walk_of("tops+"), "boss"), ("bob", "pile"))

    def test_the_end_itself(self):
        self.assertEqual(comers(BOOK, WORLD, walk_of("in*"), "ana"), ("ana",))
        self.assertEqual(comers(BOOK, WORLD, walk_of("in"), "ana"), ())
        self.assertEqual(comers(BOOK, WORLD, walk_of("in*"), "case"), ("ana", "blue", "case", "grey"))
        self.assertEqual(comers(BOOK, WORLD, walk_of("in+"), "case"), ("ana", "blue", "grey"))
        self.assertEqual(comers(BOOK, WORLD, walk_of("in in"), "blue"), ("blue",))
        self.assertEqual(comers(BOOK, WORLD, walk_of("in"), "red"), ("blue", "bob", "red"))
        # A thing and a badge are no askers and no groups.
        self.assertEqual(comers(BOOK, WORLD, walk_of("keeps*"), "leaf"), ("ana",))
        self.assertEqual(comers(BOOK, WORLD, walk_of("tops*"), "boss"), ("bob", "pile"))

    def test_ends_that_are_not_there(self):
        for end in ("nobody", "zz5", "paper", ""):
            self.assertEqual(comers(BOOK, WORLD, walk_of("any*"), end), ())
        self.assertEqual(comers(BOOK, world_of(BOOK, NODES, ()), walk_of("any*"), "boss"), ())

    def test_tables(self):
        team, gold = ("in", "team", ()), ("in", "team", ("gold",))
        # The way comes by place 0 more than once.
        walk = ("table", ((0, team, 1), (1, gold, 0), (0, gold, 2), (2, gold, 0)), 0)
        for end in ENDS:
            expected = tuple(sorted(node for node in STARTS if end in walked(BOOK, WORLD, walk, node)))
            self.assertEqual(comers(BOOK, WORLD, walk, end), expected)
        self.assertEqual(comers(BOOK, WORLD, ("table", (), None), "ana"), ())
        self.assertEqual(comers(BOOK, WORLD, ("table", (), 3), "ana"), ())
        self.assertEqual(comers(BOOK, WORLD, ("table", (), 0), "ana"), ("ana",))

    def test_the_same_as_walked(self):
        chance = random.Random(94)
        for turn in range(60):
            world = WORLD if turn < 20 else by_chance.world(chance, BOOK, NODES, 150)
            walk = by_chance.town_walk(chance, BOOK)
            ends = {node: walked(BOOK, world, walk, node) for node in STARTS}
            for end in ENDS:
                self.assertEqual(comers(BOOK, world, walk, end), tuple(sorted(node for node in STARTS if end in ends[node])))


class NoNameTest(unittest.TestCase):
    def test_things_and_names_that_are_not_there(self):
        calls = {
            "reached": lambda node: reached(BOOK, WORLD, walk_of("any*"), node),
            "steps_to": lambda node: steps_to(BOOK, WORLD, walk_of("any*"), node),
            "steps_to at most": lambda node: steps_to(BOOK, WORLD, walk_of("any*"), node, most=0),
            "shortest": lambda node: shortest(BOOK, WORLD, walk_of("any*"), node, "leaf"),
            "shortest to itself": lambda node: shortest(BOOK, WORLD, walk_of("any*"), node, node),
            "shortest to nobody": lambda node: shortest(BOOK, WORLD, walk_of("any*"), node, "nobody"),
        }
        for node in ("leaf", "memo", "auditor", "nobody", "zz0", "paper", ""):
            for name, call in calls.items():
                with self.assertRaises(NoName, msg=name) as caught:
                    call(node)
                self.assertEqual(caught.exception.name, node)
                self.assertNotIsInstance(caught.exception, LimitError)

    def test_comers_does_not_raise(self):
        for end in ("leaf", "memo", "auditor", "nobody", "zz0", "paper", ""):
            self.assertIs(type(comers(BOOK, WORLD, walk_of("any"), end)), tuple)


class LargeWorldTest(unittest.TestCase):
    def test_long_rings(self):
        book = Book(read("asker a; group g; thing t; tie i from a g to g; tie j from g to t;"))
        names = [f"zz{at}" for at in range(57)]
        nodes = [("ana", "a", ()), ("p", "t", ()), *[(name, "g", ()) for name in names]]
        links = [("ana", "i", "zz0"), ("zz56", "j", "p"), *[(name, "i", after) for name, after in zip(names, names[1:] + names[:1])]]
        world = world_of(book, nodes, links)
        # Rings of 57 and of 4 letters: the path goes round three times.
        walk = walk_of("(i i i i)* j")
        path = shortest(book, world, walk, "ana", "p")
        self.assertEqual(len(path), 229)
        self.assertEqual(steps_to(book, world, walk, "ana"), (("p", 229),))
        self.assertEqual(steps_to(book, world, walk, "ana", most=228), ())
        self.assertEqual(reached(book, world, walk, "ana"), ("p",))
        self.assertEqual(comers(book, world, walk, "p"), tuple(sorted(["ana", *names])))

    def test_all_links_there_can_be(self):
        book = Book(read("asker a; group g; thing t; tie i from a g to g; tie j from g to t;"))
        names = [f"zz{at}" for at in range(19)]
        nodes = [("ana", "a", ()), ("p", "t", ()), *[(name, "g", ()) for name in names]]
        links = [*itertools.product(names, ("i",), names), *[("ana", "i", name) for name in names], ("zz18", "j", "p")]
        world = world_of(book, nodes, links)
        self.assertEqual(shortest(book, world, walk_of("i{4} i{4} i* j"), "ana", "p"), (("i", "zz18"), ("j", "p")))
        self.assertEqual(shortest(book, world, walk_of("i i i i i i i j"), "ana", "p"), (*[("i", "zz0")] * 6, ("i", "zz18"), ("j", "p")))


if __name__ == "__main__":
    unittest.main()
