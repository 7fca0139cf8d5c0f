"""Kept answers, and which of them are struck when a world changes [43], with [21]."""

import random
import unittest

from leaveledger.answers import answer
from leaveledger.books import Book
from leaveledger.deeds import done
from leaveledger.errors import BadAsk, BadDeed
from leaveledger.keeper import Keeper
from leaveledger.reading import read
from leaveledger.sights import judge_completion
from tests import chance as by_chance
from tests.samples import EXAMPLE
from tests.test_example import WORLD as LITTLE_WORLD
from tests.test_grounds import is_ground
from tests.test_realizing import BOOK, NODES

LITTLE = Book(read(EXAMPLE))
ANA = ("ana", "view", "memo", (False,), (), 0)
BOB = ("bob", "view", "memo", (False,), (), 0)
EDIT = ("bob", "edit", "memo", (True,), (), 7)


def keeper_of(*asks):
    keeper = Keeper(LITTLE, LITTLE_WORLD)
    for ask in asks:
        keeper.asked(ask)
    return keeper


class KeeperTest(unittest.TestCase):
    def test_new(self):
        keeper = Keeper(LITTLE, LITTLE_WORLD)
        self.assertEqual((keeper.kept, keeper.world), ((), LITTLE_WORLD))
        self.assertIsNone(keeper.ground(ANA))

    def test_asked(self):
        keeper = Keeper(LITTLE, LITTLE_WORLD)
        for ask, yes in ((BOB, False), (ANA, True), (EDIT, False), (BOB, False), (ANA, True)):
            self.assertIs(keeper.asked(ask), yes)
        self.assertEqual(keeper.kept, (ANA, EDIT, BOB))
        for ask in keeper.kept:
            self.assertTrue(is_ground(LITTLE, LITTLE_WORLD, ask, keeper.ground(ask))[0])

    def test_kept_once_with_its_ground(self):
        keeper = keeper_of(ANA)
        first = keeper.ground(ANA)
        keeper.change(("link", "bob", "in", "red"))
        keeper.asked(ANA)
        self.assertEqual(keeper.kept, (ANA,))
        self.assertEqual(keeper.ground(ANA), first)

    def test_grounds_of_other_asks(self):
        keeper = keeper_of(ANA, BOB)
        for other in (EDIT, ("ana", "view", "memo", (True,), (), 0), ("ana", "view", "memo", (0,), (), 0), ("ana", "view", "memo", (False,), (), False),
                      ("cleo", "view", "memo", (False,), (), 0), ANA[:5], (*ANA, 0), ["ana"], None, (), 5, ("ana", "view", "memo", [False], (), 0),
                      ("ana", "view", "memo", (False,), [], 0), (["ana"], "view", "memo", (False,), (), 0)):
            self.assertIsNone(keeper.ground(other), other)

    def test_asks_that_do_not_fit(self):
        keeper = keeper_of(ANA)
        for at, part in ((0, "red"), (0, "cleo"), (1, "none"), (2, "blue"), (3, (0,)), (3, [False]), (3, (None,)), (4, (1,)), (5, False), (5, 10000)):
            with self.assertRaises(BadAsk) as caught:
                keeper.asked((*ANA[:at], part, *ANA[at + 1:]))
            self.assertEqual(caught.exception.part, at)
        self.assertEqual(keeper.kept, (ANA,))

    def test_change(self):
        keeper = keeper_of(ANA, BOB, EDIT)
        self.assertEqual(keeper.change(("link", "bob", "keeps", "memo")), ())
        self.assertEqual(keeper.change(("link", "bob", "in", "red")), (BOB,))
        self.assertEqual(keeper.kept, (ANA, EDIT))
        self.assertIsNone(keeper.ground(BOB))
        self.assertIs(keeper.asked(BOB), True)
        self.assertEqual(keeper.change(("cut", "red", "keeps", "memo")), (ANA, BOB))
        self.assertEqual(keeper.kept, (EDIT,))
        self.assertIs(keeper.asked(ANA), False)

    def test_change_returns_them_ascending(self):
        keeper = keeper_of(BOB, EDIT, ANA)
        self.assertEqual(keeper.change(("drop", "memo")), (ANA, EDIT, BOB))
        self.assertEqual(keeper.kept, ())
        self.assertEqual(keeper.world, done(LITTLE, LITTLE_WORLD, ("drop", "memo")))

    def test_a_node_that_comes_back(self):
        keeper = keeper_of(ANA, EDIT)
        self.assertEqual(keeper.change(("drop", "ana")), (ANA,))
        self.assertEqual(keeper.change(("node", "ana", "clerk", (), ())), ())
        self.assertEqual(keeper.kept, (EDIT,))
        self.assertIs(keeper.asked(ANA), False)
        self.assertEqual(keeper.kept, (ANA, EDIT))

    def test_deeds_that_cannot_be_done(self):
        keeper = keeper_of(ANA, BOB)
        for deed in (("link", "ana", "in", "red"), ("cut", "bob", "in", "red"), ("drop", "cleo"), ("node", "ana", "clerk", (), ()), ("tick", 1), None, (),
                     ["drop", "memo"], ("tag", "red", "gold", True)):
            with self.assertRaises(BadDeed):
                keeper.change(deed)
            self.assertEqual((keeper.kept, keeper.world), ((ANA, BOB), LITTLE_WORLD))
            self.assertIsNotNone(keeper.ground(ANA))

    def test_a_change_and_back(self):
        keeper = keeper_of(ANA)
        keeper.change(("cut", "ana", "in", "red"))
        self.assertIs(keeper.asked(ANA), False)
        self.assertEqual(keeper.change(("link", "ana", "in", "red")), (ANA,))
        self.assertIs(keeper.asked(ANA), True)
        self.assertEqual(keeper.world, LITTLE_WORLD)

    def test_keepers_do_not_share(self):
        first, second = keeper_of(ANA), keeper_of(BOB)
        first.change(("drop", "bob"))
        self.assertEqual((first.kept, second.kept, second.world), ((ANA,), (BOB,), LITTLE_WORLD))

    def test_by_chance(self):
        chance = random.Random(241)
        struck_in_all = answered = 0
        for turn in range(20):
            world = by_chance.world(chance, BOOK, NODES, 25)
            keeper = Keeper(BOOK, world)
            for step in range(40):
                if chance.random() < 0.4:
                    ask = ("ana", chance.choice(("view", "copy")), chance.choice(("memo", "zz1")), (chance.random() < 0.5, False), (chance.randint(0, 4),), 5)
                    is_kept = ask in keeper.kept
                    try:
                        self.assertIs(keeper.asked(ask), answer(BOOK, world, ask)[0] == "let")
                        answered += is_kept
                    except BadAsk:
                        kinds = {name: kind for name, kind, _ in world[0]}
                        self.assertNotEqual((kinds.get("ana"), kinds.get(ask[2])), ("clerk", "paper"))
                    continue
                deed = by_chance.deed(chance, BOOK, world)
                before = {ask: keeper.ground(ask) for ask in keeper.kept}
                try:
                    world = done(BOOK, world, deed)
                except BadDeed:
                    with self.assertRaises(BadDeed):
                        keeper.change(deed)
                    continue
                struck = keeper.change(deed)
                self.assertEqual(keeper.world, world)
                expected = tuple(ask for ask in sorted(before) if not judge_completion(BOOK, before[ask], ask, (world, ask)))
                self.assertEqual(struck, expected)
                self.assertEqual(keeper.kept, tuple(ask for ask in sorted(before) if ask not in struck))
                struck_in_all += len(struck)
        self.assertTrue(struck_in_all > 40 and answered > 5, (struck_in_all, answered))


if __name__ == "__main__":
    unittest.main()
