"""Sights [36], and the worlds and asks that complete them [37]."""

import itertools
import random
import unittest

from leaveledger.books import Book
from leaveledger.reading import read
from leaveledger.sights import bare, is_sight, judge_completion, sight_of
from leaveledger.worlds import is_world, world_of
from tests import chance as by_chance, plainjudges
from tests.junk import JUNK, some_variants
from tests.plainjudges import completes
from tests.samples import EXAMPLE, TOWN
from tests.test_walked import BOOK as TOWN_BOOK, NODES as TOWN_NODES, WORLD as TOWN_WORLD

BOOK = Book(read(EXAMPLE))
EMPTY = ((), (), (), (), ())
NODES = [("ana", "clerk", ("gold",)), ("bob", "guest", ()), ("red", "team", ("gold", "old")), ("pile", "box", ()),
         ("leaf", "paper", ("old",)), ("memo", "memo", ())]
LINKS = [("ana", "in", "red"), ("ana", "keeps", "leaf"), ("red", "keeps", "memo"), ("red", "keeps", "auditor"), ("bob", "tops", "pile")]
NUMBERS = [("ana", "level", 3), ("bob", "level", 9999), ("leaf", "level", 0), ("leaf", "size", 4), ("memo", "size", 5)]
WORLD = world_of(TOWN_BOOK, NODES, LINKS, NUMBERS)
SIGHT = (
    (("ana", "clerk", ()), ("bob", "guest", ()), ("leaf", "paper", ()), ("pile", "box", ()), ("red", "team", ("gold", "old"))),
    (("ana", "in", "red"), ("ana", "keeps", "leaf"), ("red", "keeps", "auditor")),
    (("ana", "keeps"), ("pile", "tops"), ("red", "in")),
    (("ana", "fine", False), ("ana", "gold", True), ("leaf", "fine", False), ("leaf", "old", True)),
    (("ana", "level", 3), ("leaf", "size", 4)),
)
ASK = ("ana", "view", "leaf", (True, None, False), (None, 7), None)
FULL = ("ana", "view", "leaf", (True, True, False), (3, 7), 20)


def sighted(sight, book=TOWN_BOOK):
    return is_sight(book, sight)


def with_part(sight, at, rows):
    return (*sight[:at], tuple(rows), *sight[at + 1:])


class IsSightTest(unittest.TestCase):
    def check_added(self, at, row, truth):
        """Whether there is a sight still if a row is told besides, in its order."""
        self.assertIs(sighted(with_part(SIGHT, at, sorted((*SIGHT[at], row)))), truth, row)

    def test_right_ones(self):
        self.assertIs(sighted(SIGHT), True)
        self.assertIs(sighted(EMPTY), True)
        self.assertIs(sighted(EMPTY, BOOK), True)
        self.assertIs(sighted(SIGHT, BOOK), False)

    def test_parts_may_be_left_out(self):
        for at in range(1, 5):
            for row in SIGHT[at]:
                self.assertIs(sighted(with_part(SIGHT, at, [other for other in SIGHT[at] if other != row])), True)
            self.assertIs(sighted(with_part(SIGHT, at, ())), True)
        for node in SIGHT[0]:
            self.assertIs(sighted(with_part(SIGHT, 0, [other for other in SIGHT[0] if other != node])), node[0] == "bob")

    def test_order_and_twice(self):
        for at in range(5):
            self.assertIs(sighted(with_part(SIGHT, at, SIGHT[at][::-1])), False, at)
            for row in SIGHT[at]:
                self.assertIs(sighted(with_part(SIGHT, at, sorted((*SIGHT[at], row)))), False, row)

    def test_nodes(self):
        for node in (("zz7", "clerk", ()), ("zz999", "team", ("old",)), ("x", "box", ("old",)), ("x", "memo", ()), ("x", "team", ())):
            self.check_added(0, node, True)
        for node in (("x", "clerk", ("gold",)), ("x", "paper", ("old",)), ("x", "team", ("old", "gold")), ("x", "team", ("gold", "gold")),
                     ("x", "team", ("fine",)), ("x", "box", ("gold",)), ("x", "none", ()), ("x", "auditor", ()), ("auditor", "box", ()),
                     ("node", "box", ()), ("zz1000", "box", ()), ("zz01", "box", ()), ("", "box", ()), ("X", "box", ()),
                     ("ana", "guest", ()), ("red", "team", ()), ("x", "team", "gold"), ("x", "team")):
            self.check_added(0, node, False)

    def test_links(self):
        for link in (("red", "keeps", "leaf"), ("bob", "in", "red"), ("pile", "tops", "boss"), ("red", "in", "red")):
            self.check_added(1, link, True)
        for link in (("leaf", "keeps", "red"), ("red", "in", "pile"), ("bob", "keeps", "leaf"), ("pile", "tops", "auditor"), ("red", "keeps", "memo"),
                     ("red", "keeps", "zz4"), ("cleo", "in", "red"), ("red", "none", "red"), ("red", "in", "ana"), ("auditor", "in", "red"),
                     ("bob", "tops", "boss", ""), ("bob", "tops"), ("bob", "tops", "paper")):
            self.check_added(1, link, link == ("bob", "tops", "boss"))

    def test_links_that_are_never(self):
        sight = ((("a", "team", ("gold",)), ("b", "team", ()), ("c", "box", ("old",))), (("a", "in", "b"),), (), (), ())
        self.assertIs(sighted(sight), False)
        self.assertIs(sighted(with_part(sight, 1, [("b", "in", "a")])), True)
        self.assertIs(sighted(with_part(sight, 1, [("c", "tops", "c")])), False)
        self.assertIs(sighted(with_part(sight, 1, [("c", "tops", "boss")])), True)

    def test_closed_rows(self):
        for pair in (("ana", "in"), ("bob", "tops"), ("bob", "in"), ("red", "keeps")):
            self.check_added(2, pair, True)
        for pair in (("ana", "tops"), ("bob", "keeps"), ("pile", "in"), ("leaf", "in"), ("leaf", "keeps"), ("cleo", "in"), ("ana", "none"),
                     ("auditor", "in"), ("ana", ""), ("ana",), ("ana", "in", "red"), ("red", "tops"), ("", "")):
            self.check_added(2, pair, False)

    def test_tags(self):
        for row in (("leaf", "fine", False), ("ana", "fine", True), ("ana", "gold", False), ("ana", "gold", True)):
            self.check_added(3, row, False)
        fewer = with_part(SIGHT, 3, ())
        for row, truth in ((("leaf", "fine", True), True), (("ana", "fine", False), True), (("ana", "gold", True), True),
                           (("leaf", "gold", True), False), (("ana", "old", False), False), (("bob", "gold", True), False),
                           (("red", "gold", True), False), (("red", "gold", False), False), (("cleo", "gold", True), False),
                           (("ana", "none", True), False), (("ana", "gold", 1), False), (("ana", "gold", 0), False),
                           (("ana", "gold", None), False), (("ana", "gold"), False), (("ana", "gold", ()), False)):
            self.assertIs(sighted(with_part(fewer, 3, (row,))), truth, row)
        self.assertIs(sighted(with_part(fewer, 3, (("ana", "gold", False), ("ana", "gold", True)))), False)

    def test_numbers(self):
        fewer = with_part(SIGHT, 4, ())
        for row, truth in ((("ana", "level", 0), True), (("bob", "level", 9999), True), (("leaf", "level", 1), True),
                           (("leaf", "size", 2), True), (("ana", "size", 2), False), (("pile", "level", 2), False),
                           (("red", "level", 2), False), (("ana", "level", 10000), False), (("ana", "level", -1), False),
                           (("ana", "level", True), False), (("ana", "level", False), False), (("ana", "level", None), False),
                           (("memo", "size", 2), False), (("ana", "none", 2), False), (("ana", "level"), False)):
            self.assertIs(sighted(with_part(fewer, 4, (row,))), truth, row)
        self.assertIs(sighted(with_part(fewer, 4, (("ana", "level", 1), ("ana", "level", 2)))), False)
        self.assertIs(sighted(with_part(fewer, 4, (("ana", "level", 1), ("bob", "level", 1)))), True)

    def test_large_sights(self):
        book = Book(read("asker a; group g; thing t; tie i from a g to g t;"))
        names = [f"zz{at}" for at in range(200)]
        nodes = tuple(sorted((name, "g", ()) for name in names))
        links = tuple(sorted(itertools.product(names[:30], ("i",), names[:30])))
        self.assertIs(is_sight(book, (nodes, links, (), (), ())), True)
        self.assertIs(is_sight(book, (nodes, links[::-1], (), (), ())), False)
        self.assertIs(is_sight(book, (nodes, links, tuple((name, "i") for name, _, _ in nodes), (), ())), True)

    def test_what_is_no_sight(self):
        for other in JUNK:
            self.assertIs(sighted(other), other == EMPTY, other)
        for at in range(5):
            self.assertIs(sighted(SIGHT[:at] + SIGHT[at + 1:]), False)
            self.assertIs(sighted((*SIGHT[:at], list(SIGHT[at]), *SIGHT[at + 1:])), False)
        self.assertIs(sighted((*SIGHT, ())), False)
        self.assertIs(sighted(list(SIGHT)), False)

    def test_whatever_stands_there(self):
        chance = random.Random(161)
        for other in some_variants(chance, SIGHT, 6000):
            self.assertIs(sighted(other), plainjudges.is_sight(TOWN_BOOK, other), other)


class SightOfTest(unittest.TestCase):
    def test_all_is_told(self):
        self.assertEqual(sight_of(TOWN_BOOK, WORLD), (
            (("ana", "clerk", ()), ("bob", "guest", ()), ("leaf", "paper", ()), ("memo", "memo", ()), ("pile", "box", ()),
             ("red", "team", ("gold", "old"))),
            WORLD[1],
            (("ana", "in"), ("ana", "keeps"), ("bob", "in"), ("bob", "tops"), ("pile", "tops"), ("red", "in"), ("red", "keeps")),
            (("ana", "fine", False), ("ana", "gold", True), ("leaf", "fine", False), ("leaf", "old", True)),
            tuple(sorted(NUMBERS)),
        ))

    def test_ties_tags_and_numbers_in_any_order(self):
        book = Book(read("asker a; group g; thing t; tag z on a; tag b on a; number y on a; number c on a; "
                         "tie j from a g to g t; tie i from g a to t; tie h from g to g;"))
        world = world_of(book, [("x", "a", ("z",)), ("w", "g", ())], [("x", "j", "w")])
        self.assertEqual(sight_of(book, world), (
            (("w", "g", ()), ("x", "a", ())), (("x", "j", "w"),), (("w", "h"), ("w", "i"), ("w", "j"), ("x", "i"), ("x", "j")),
            (("x", "b", False), ("x", "z", True)), (("x", "c", 0), ("x", "y", 0))))
        self.assertIs(is_sight(book, sight_of(book, world)), True)

    def test_is_a_sight(self):
        chance = random.Random(162)
        for world in (WORLD, TOWN_WORLD, ((), (), ()), *[by_chance.world(chance, TOWN_BOOK, TOWN_NODES, 100) for _ in range(20)]):
            self.assertIs(sighted(sight_of(TOWN_BOOK, world)), True)
        self.assertEqual(sight_of(TOWN_BOOK, ((), (), ())), EMPTY)

    def test_the_world_completes_it(self):
        self.assertIs(judge_completion(TOWN_BOOK, sight_of(TOWN_BOOK, WORLD), FULL, (WORLD, FULL)), True)


class BareTest(unittest.TestCase):
    def test_example(self):
        sight = ((("zz0", "clerk", ()), ("zz1", "paper", ())), (), (), (), ())
        self.assertEqual(bare(BOOK, ("clerk", "view", "paper")), (sight, ("zz0", "view", "zz1", (None,), (), None)))

    def test_flags_and_numbers(self):
        sight, ask = bare(TOWN_BOOK, ("guest", "edit", "memo"))
        self.assertEqual(sight, ((("zz0", "guest", ()), ("zz1", "memo", ())), (), (), (), ()))
        self.assertEqual(ask, ("zz0", "edit", "zz1", (None, None, None), (None, None), None))

    def test_is_a_sight(self):
        for book in (BOOK, TOWN_BOOK):
            for frame in (*book.frames, ("guest", "view", "paper")):
                sight, ask = bare(book, frame)
                self.assertIs(is_sight(book, sight), True)
                self.assertEqual((ask[0], ask[1], ask[2]), ("zz0", frame[1], "zz1"))

    def test_worlds_complete_it(self):
        sight, ask = bare(TOWN_BOOK, ("clerk", "view", "paper"))
        world = world_of(TOWN_BOOK, [("zz0", "clerk", ("gold",)), ("zz1", "paper", ()), ("zz2", "team", ())],
                         [("zz0", "in", "zz2"), ("zz2", "keeps", "zz1")], [("zz0", "level", 4)])
        self.assertIs(judge_completion(TOWN_BOOK, sight, ask, (world, ("zz0", "view", "zz1", (True, False, True), (4, 5), 6))), True)
        self.assertIs(judge_completion(TOWN_BOOK, sight, ask, (world, ("zz0", "copy", "zz1", (True, False, True), (4, 5), 6))), False)
        self.assertIs(judge_completion(TOWN_BOOK, sight, ask, (WORLD, FULL)), False)


class JudgeCompletionTest(unittest.TestCase):
    def judged(self, world=WORLD, full=FULL, sight=SIGHT, ask=ASK):
        found = judge_completion(TOWN_BOOK, sight, ask, (world, full))
        self.assertIs(found, completes(TOWN_BOOK, sight, ask, world, full))
        return found

    def world(self, nodes=NODES, links=LINKS, numbers=NUMBERS):
        return world_of(TOWN_BOOK, nodes, links, numbers)

    def test_right_ones(self):
        self.assertIs(self.judged(), True)
        self.assertIs(self.judged(ask=FULL), True)
        self.assertIs(self.judged(sight=EMPTY), True)
        self.assertIs(self.judged(sight=sight_of(TOWN_BOOK, WORLD)), True)

    def test_sights_that_tell_less(self):
        whole = sight_of(TOWN_BOOK, WORLD)
        for at in range(2, 5):
            for row in whole[at]:
                fewer = with_part(whole, at, [other for other in whole[at] if other != row])
                self.assertIs(sighted(fewer), True)
                self.assertIs(self.judged(sight=fewer), True, row)
        for link in whole[1]:
            fewer = with_part(whole, 1, [other for other in whole[1] if other != link])
            # The row is told whole, and the link is none of it.
            self.assertIs(self.judged(sight=fewer), False, link)
            self.assertIs(self.judged(sight=with_part(fewer, 2, [pair for pair in whole[2] if pair != link[:2]])), True, link)

    def test_nodes(self):
        for at, node in enumerate(NODES):
            links = [link for link in LINKS if node[0] not in link]
            numbers = [row for row in NUMBERS if row[0] != node[0]]
            fewer = self.world(NODES[:at] + NODES[at + 1:], links, numbers)
            if node[0] in ("ana", "leaf"):
                self.assertIs(judge_completion(TOWN_BOOK, SIGHT, ASK, (fewer, FULL)), False)
            else:
                self.assertIs(self.judged(fewer), node[0] == "memo", node)

    def test_other_kinds_and_marks(self):
        sight = with_part(EMPTY, 0, [("pile", "box", ()), ("red", "team", ("gold", "old"))])
        for at, node, truth in ((3, ("pile", "box", ("old",)), False), (3, ("pile", "team", ()), False), (2, ("red", "team", ("gold",)), False),
                                (2, ("red", "team", ()), False), (2, ("red", "team", ("gold", "old")), True)):
            nodes = [*NODES[:at], node, *NODES[at + 1:]]
            self.assertIs(self.judged(self.world(nodes, ()), sight=sight), truth, node)
        # An asker's tags are no marks.
        self.assertIs(self.judged(self.world([("ana", "clerk", ()), *NODES[1:]]), sight=with_part(SIGHT, 3, ())), True)
        self.assertIs(self.judged(self.world([NODES[0], ("bob", "clerk", ()), *NODES[2:]], ()), sight=(SIGHT[0], (), (), (), ())), False)

    def test_links(self):
        for link in LINKS:
            self.assertIs(self.judged(self.world(links=[other for other in LINKS if other != link])), link not in SIGHT[1], link)

    def test_closed_rows(self):
        for link, truth in ((("ana", "keeps", "memo"), False), (("ana", "keeps", "auditor"), False), (("pile", "tops", "pile"), False),
                            (("pile", "tops", "boss"), False), (("red", "in", "red"), False), (("red", "keeps", "leaf"), True),
                            (("bob", "tops", "boss"), True), (("bob", "in", "red"), True)):
            self.assertIs(self.judged(self.world(links=[*LINKS, link])), truth, link)
        # Another node's link does not matter, nor one by another tie.
        self.assertIs(self.judged(self.world([*NODES, ("zz5", "team", ())], [*LINKS, ("ana", "in", "zz5")])), True)
        self.assertIs(self.judged(self.world([*NODES, ("zz5", "team", ("gold",))], [*LINKS, ("red", "in", "zz5")])), False)

    def test_tags(self):
        for at, tags in ((0, ()), (0, ("fine", "gold")), (0, ("fine",)), (4, ()), (4, ("fine", "old")), (4, ("fine",))):
            nodes = [*NODES[:at], (*NODES[at][:2], tags), *NODES[at + 1:]]
            self.assertIs(self.judged(self.world(nodes)), False, (at, tags))
        open_sight = with_part(SIGHT, 3, [("ana", "fine", False)])
        self.assertIs(self.judged(self.world([("ana", "clerk", ()), *NODES[1:]]), sight=open_sight), True)
        self.assertIs(self.judged(self.world([("ana", "clerk", ("fine",)), *NODES[1:]]), sight=open_sight), False)

    def test_numbers(self):
        for at, row in enumerate(NUMBERS):
            for worth in (row[2] + 1, row[2] - 1):
                if 0 <= worth <= 9999:
                    other = self.world(numbers=[*NUMBERS[:at], (*row[:2], worth), *NUMBERS[at + 1:]])
                    self.assertIs(self.judged(other), row not in SIGHT[4], row)

    def test_asks(self):
        for at, part, truth in ((0, "bob", False), (1, "copy", False), (2, "memo", False), (5, 0, True), (5, 9999, True),
                                (3, (True, False, False), True), (3, (False, True, False), False), (3, (True, True, True), False),
                                (4, (9999, 7), True), (4, (3, 8), False), (4, (3, 0), False)):
            self.assertIs(self.judged(full=(*FULL[:at], part, *FULL[at + 1:])), truth, part)
        self.assertIs(self.judged(ask=(*ASK[:5], 20)), True)
        self.assertIs(self.judged(ask=(*ASK[:5], 21)), False)
        self.assertIs(self.judged(ask=(*ASK[:5], 0)), False)

    def test_asks_that_do_not_fit(self):
        for at, part in ((0, "red"), (0, "cleo"), (0, None), (1, "none"), (1, None), (2, "red"), (2, "auditor"), (3, (True, None, False)),
                         (3, (True, True)), (3, (True, 1, False)), (3, [True, True, False]), (4, (None, 7)), (4, (10000, 7)), (4, (7,)),
                         (4, (True, 7)), (5, None), (5, -1), (5, 10000), (5, True), (5, "20")):
            full = (*FULL[:at], part, *FULL[at + 1:])
            self.assertIs(judge_completion(TOWN_BOOK, SIGHT, ASK, (WORLD, full)), False, full)
        for full in (FULL[:5], (*FULL, 0), (), None, list(FULL), ASK):
            self.assertIs(judge_completion(TOWN_BOOK, SIGHT, ASK, (WORLD, full)), False, full)

    def test_further_nodes_and_links(self):
        more = [(f"zz{at}", "team", ()) for at in range(100)]
        links = [(first, "in", second) for (first, _, _), (second, _, _) in itertools.product(more[:22], repeat=2)]
        levels = tuple(sorted([*WORLD[2]]))
        world = (tuple(sorted([*WORLD[0], *more])), tuple(sorted([*WORLD[1], *links])), levels)
        self.assertTrue(len(world[0]) > 60 and len(world[1]) > 400)
        self.assertIs(is_world(TOWN_BOOK, world), False)
        self.assertIs(self.judged(world), True)
        self.assertIs(self.judged((world[0], tuple(sorted([*world[1], ("red", "in", "zz3")])), levels)), False)
        self.assertIs(judge_completion(TOWN_BOOK, SIGHT, ASK, ((world[0], world[1][::-1], levels), FULL)), False)
        self.assertIs(judge_completion(TOWN_BOOK, SIGHT, ASK, ((world[0], (*world[1], world[1][-1]), levels), FULL)), False)
        clerks = tuple(sorted([*WORLD[0], *[(f"zz{at}", "clerk", ()) for at in range(100)]]))
        numbers = tuple(sorted([*WORLD[2], *[(f"zz{at}", "level", 1) for at in range(100)]]))
        self.assertIs(self.judged((clerks, WORLD[1], numbers)), True)
        self.assertIs(judge_completion(TOWN_BOOK, SIGHT, ASK, ((clerks, WORLD[1], WORLD[2]), FULL)), False)

    def test_what_is_no_pair_of_a_world_and_an_ask(self):
        for other in (*JUNK, WORLD, FULL, (WORLD,), (FULL, WORLD), (WORLD, FULL, FULL), [WORLD, FULL], (list(WORLD), FULL)):
            self.assertIs(judge_completion(TOWN_BOOK, SIGHT, ASK, other), False, other)
            if other != WORLD:
                self.assertIs(judge_completion(TOWN_BOOK, SIGHT, ASK, (other, FULL)), False, other)
            if other != FULL:
                self.assertIs(judge_completion(TOWN_BOOK, SIGHT, ASK, (WORLD, other)), False, other)

    def test_whatever_stands_there(self):
        chance = random.Random(163)
        seen = {False: 0, True: 0}
        for other in some_variants(chance, (WORLD, FULL), 6000):
            found = judge_completion(TOWN_BOOK, SIGHT, ASK, other)
            self.assertIs(type(found), bool)
            if found:
                world, full = other
                self.assertIs(is_world(TOWN_BOOK, world), True)
                self.assertTrue(completes(TOWN_BOOK, SIGHT, ASK, world, full), other)
            seen[found] += 1
        self.assertTrue(seen[True] > 5, seen)

    def test_by_chance(self):
        chance = random.Random(164)
        seen = {False: 0, True: 0}
        for turn in range(300):
            world = by_chance.world(chance, TOWN_BOOK, NODES, 150)
            told = sight_of(TOWN_BOOK, world)
            sight = (told[0], *[tuple(row for row in part if chance.random() < much) for part, much in zip(told[1:], (0.9, 0.3, 0.5, 0.5))])
            other = by_chance.world(chance, TOWN_BOOK, NODES, 150) if turn % 3 == 0 else world
            if turn % 3 == 1:
                link = chance.choice(world[1])
                other = (world[0], tuple(row for row in world[1] if row != link), world[2])
            seen[self.judged(other, sight=sight)] += 1
        self.assertTrue(min(seen.values()) > 50, seen)


if __name__ == "__main__":
    unittest.main()
