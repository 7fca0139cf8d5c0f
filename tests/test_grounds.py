"""Sights that are one step weaker, and grounds [42]."""

import random
import unittest

from leaveledger.answers import answer
from leaveledger.books import Book
from leaveledger.errors import BadAsk
from leaveledger.grounds import ground, weaker
from leaveledger.reading import read
from leaveledger.sights import is_sight, judge_completion, sight_of
from leaveledger.sure import sure
from leaveledger.worlds import world_of
from tests import chance as by_chance
from tests.samples import EXAMPLE
from tests.test_example import WORLD as LITTLE_WORLD
from tests.test_realizing import BOOK, NODES, sight_with
from tests.test_walked import BOOK as TOWN_BOOK, NODES as TOWN_NODES, WORLD as TOWN_WORLD

LITTLE = Book(read(EXAMPLE))


def is_ground(book, world, ask, sight):
    """Whether a sight is a ground, looked at word by word; and why not."""
    if not is_sight(book, sight) or not judge_completion(book, sight, ask, (world, ask)):
        return False, "no sight that the world completes"
    names = {ask[0], ask[2]} | {name for link in sight[1] for name in (link[0], link[2])} | {name for name, _ in sight[2]}
    if [node[0] for node in sight[0]] != sorted(names & {node[0] for node in world[0]}):
        return False, "other nodes"
    if sure(book, sight, ask)[:2] != ("sure", answer(book, world, ask)[0] == "let"):
        return False, "not sure"
    fewer = [sure(book, other, ask)[0] for other in weaker(sight)]
    return set(fewer) <= {"open"}, "too much is told"


class WeakerTest(unittest.TestCase):
    def test_the_order(self):
        sight = sight_with((("blue", "team", ()), ("pile", "box", ())), (("ana", "in", "blue"), ("ana", "keeps", "memo"), ("blue", "in", "pile"), ("blue", "keeps", "boss")),
                           (("ana", "in"), ("blue", "in")), (("ana", "fine", True), ("ana", "old", False)), (("ana", "level", 3), ("memo", "level", 4)))
        nodes, links, closed, tags, numbers = sight
        self.assertEqual(weaker(sight), (
            (nodes, links, closed[1:], tags, numbers), (nodes, links, closed[:1], tags, numbers),
            (nodes, (links[0], *links[2:]), closed, tags, numbers), (nodes, links[:3], closed, tags, numbers),
            (nodes, links, closed, tags[1:], numbers), (nodes, links, closed, tags[:1], numbers),
            (nodes, links, closed, tags, numbers[1:]), (nodes, links, closed, tags, numbers[:1]),
        ))

    def test_nothing_told(self):
        self.assertEqual(weaker(((), (), (), (), ())), ())
        self.assertEqual(weaker(sight_with((("blue", "team", ()),))), ())

    def test_links_of_rows_told_whole(self):
        links = (("ana", "in", "blue"), ("ana", "keeps", "memo"))
        self.assertEqual(len(weaker(sight_with((("blue", "team", ()),), links))), 2)
        self.assertEqual(len(weaker(sight_with((("blue", "team", ()),), links, (("ana", "in"), ("ana", "keeps"))))), 2)
        self.assertEqual(len(weaker(sight_with((("blue", "team", ()),), links, (("blue", "in"), ("blue", "keeps"))))), 4)

    def test_are_sights(self):
        chance = random.Random(231)
        for _ in range(20):
            sight = sight_of(BOOK, by_chance.world(chance, BOOK, NODES, 30))
            found = weaker(sight)
            self.assertEqual(len(found), len(sight[2]) + len(sight[3]) + len(sight[4]))
            for other in found:
                self.assertIs(is_sight(BOOK, other), True)
                self.assertEqual(sum(map(len, other)), sum(map(len, sight)) - 1)


class GroundTest(unittest.TestCase):
    def found(self, world, ask, book=BOOK):
        found = ground(book, world, ask)
        self.assertEqual(is_ground(book, world, ask, found)[0], True, (is_ground(book, world, ask, found), world, ask, found))
        return found

    def test_example(self):
        ask = ("ana", "view", "memo", (False,), (), 0)
        nodes = (("ana", "clerk", ()), ("memo", "paper", ()), ("red", "team", ("gold",)))
        self.assertEqual(self.found(LITTLE_WORLD, ask, LITTLE), (nodes, (("ana", "in", "red"), ("red", "keeps", "memo")), (), (), ()))
        self.assertEqual(self.found(LITTLE_WORLD, ("ana", "view", "memo", (True,), (), 0), LITTLE), (nodes, (("ana", "in", "red"), ("red", "keeps", "memo")), (), (), ()))

    def test_no_yes(self):
        found = self.found(LITTLE_WORLD, ("bob", "view", "memo", (False,), (), 0), LITTLE)
        self.assertEqual(found[2], (("blue", "in"), ("bob", "in")))
        self.assertEqual(found[1], (("bob", "in", "blue"),))
        self.assertEqual(found[0], (("blue", "team", ()), ("bob", "clerk", ()), ("memo", "paper", ())))

    def test_frames_without_policies(self):
        self.assertEqual(self.found(LITTLE_WORLD, ("ana", "edit", "memo", (False,), (), 0), LITTLE),
                         ((("ana", "clerk", ()), ("memo", "paper", ())), (), (), (), ()))

    def test_tags_and_numbers(self):
        world = world_of(BOOK, [("ana", "clerk", ()), ("bob", "clerk", ("old",)), ("memo", "paper", ("fine",)), ("pile", "box", ())],
                         [("ana", "in", "pile"), ("pile", "keeps", "boss"), ("bob", "keeps", "memo")], [("ana", "level", 2), ("memo", "level", 1)])
        found = self.found(world, ("ana", "view", "memo", (False, False), (0,), 0))
        self.assertEqual(found[1:], ((("ana", "in", "pile"), ("pile", "keeps", "boss")), (), (), (("ana", "level", 2),)))
        found = self.found(world, ("ana", "view", "memo", (True, False), (0,), 0))
        self.assertEqual(found[1:], ((("ana", "in", "pile"), ("pile", "keeps", "boss")), (), (), ()))
        found = self.found(world, ("bob", "view", "memo", (True, False), (0,), 0))
        self.assertEqual(found[3], (("bob", "old", True),))
        self.assertEqual(found[4], ())

    def test_links_of_rows_told_whole_and_others(self):
        book = Book(read("""asker clerk ; group team ; thing paper ; badge boss ; action view ; tie aa from clerk to paper ; tie in from clerk team to team ;
            tie keeps from team to boss ; walk direct = aa ; walk one = in keeps ; let p rank 1 clerk may view on paper when by direct to thing and not by one to boss ;"""))
        world = world_of(book, [("ana", "clerk", ()), ("memo", "paper", ()), ("red", "team", ()), ("blue", "team", ())], [("ana", "in", "red"), ("ana", "aa", "memo"), ("red", "in", "blue"), ("blue", "keeps", "boss")])
        found = self.found(world, ("ana", "view", "memo", (), (), 0), book)
        self.assertEqual(found[1:3], ((("ana", "aa", "memo"), ("ana", "in", "red")), (("ana", "in"), ("red", "keeps"))))

    def test_another_ground_may_do(self):
        world = world_of(BOOK, [("ana", "clerk", ()), ("memo", "paper", ("fine",)), ("blue", "team", ()), ("grey", "team", ())],
                         [("ana", "in", "blue"), ("ana", "in", "grey"), ("blue", "keeps", "memo"), ("grey", "keeps", "memo")])
        found = self.found(world, ("ana", "view", "memo", (False, False), (0,), 0))
        self.assertEqual((len(found[1]), found[3]), (2, (("ana", "old", False), ("memo", "fine", True))))

    def test_by_chance(self):
        chance = random.Random(232)
        seen = {}
        for turn in range(100):
            world = by_chance.world(chance, BOOK, NODES, chance.choice((15, 30, 60)))
            ask = ("ana", chance.choice(("view", "copy")), chance.choice(("memo", "zz1")), (chance.random() < 0.5, False), (chance.randint(0, 4),), 5)
            self.found(world, ask)
            seen[answer(BOOK, world, ask)[0]] = seen.get(answer(BOOK, world, ask)[0], 0) + 1
        self.assertTrue(len(seen) == 3 and min(seen.values()) > 8, seen)

    def test_in_the_town(self):
        chance = random.Random(233)
        for turn in range(25):
            world = TOWN_WORLD if turn < 5 else by_chance.world(chance, TOWN_BOOK, TOWN_NODES, 100)
            ask = (chance.choice(("ana", "bob")), chance.choice(("view", "copy", "edit")), chance.choice(("sheet", "leaf", "memo")),
                   tuple(chance.random() < 0.5 for _ in range(3)), (3, 4), 2)
            self.found(world, ask, TOWN_BOOK)

    def test_a_large_world(self):
        chance = random.Random(234)
        nodes = [("ana", "clerk", ()), ("memo", "paper", ()), *[(f"zz{at}", "team", chance.choice(((), ("gold",)))) for at in range(50)]]
        world = by_chance.world(chance, BOOK, nodes, 700)
        self.assertTrue(len(world[1]) > 150)
        for flags in ((True, False), (False, False)):
            found = ground(BOOK, world, ("ana", "copy", "memo", flags, (0,), 5))
            self.assertIs(judge_completion(BOOK, found, ("ana", "copy", "memo", flags, (0,), 5), (world, ("ana", "copy", "memo", flags, (0,), 5))), True)

    def test_asks_that_do_not_fit(self):
        ask = ("ana", "view", "memo", (False,), (), 0)
        for at, part in ((0, "memo"), (0, None), (1, "none"), (2, "red"), (3, (None,)), (3, (0,)), (3, ()), (4, (1,)), (5, None), (5, True)):
            with self.assertRaises(BadAsk) as caught:
                ground(LITTLE, LITTLE_WORLD, (*ask[:at], part, *ask[at + 1:]))
            self.assertEqual(caught.exception.part, at)


if __name__ == "__main__":
    unittest.main()
