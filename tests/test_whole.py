"""The same answer by all ways: told plainly, by tables, by what is sure, kept, watched, sought in a store, and in a house."""

import random
import unittest

from leaveledger.answers import answer, stands
from leaveledger.claims import claimed
from leaveledger.deciding import decide
from leaveledger.deeds import done
from leaveledger.errors import BadDeed
from leaveledger.grounds import ground
from leaveledger.house import House
from leaveledger.keeper import Keeper
from leaveledger.queries import what, who
from leaveledger.realizing import realize
from leaveledger.sights import sight_of
from leaveledger.store import Store
from leaveledger.sure import sure
from leaveledger.tables import table, yes_table
from leaveledger.watch import Watch
from tests import chance as by_chance
from tests.plain import Plain
from tests.test_claims import book_by_chance
from tests.test_realizing import BOOK as REALM_BOOK, NODES
from tests.test_walked import BOOK as TOWN_BOOK, NODES as TOWN_NODES


def frame_of(world, ask):
    kinds = {name: kind for name, kind, _ in world[0]}
    return (kinds[ask[0]], ask[1], kinds[ask[2]])


class WholeTest(unittest.TestCase):
    def check(self, book, world, ask):
        """That all ways lead to one answer; its effect."""
        found = Plain(book.tree).answer(world, ask)
        yes = found[0] == "let"
        self.assertEqual(answer(book, world, ask), found)
        frame = frame_of(world, ask)
        valuation = tuple(stands(book, world, ask, atom) for atom in book.atoms(frame))
        self.assertEqual(decide(table(book, frame), valuation)[0], found)
        self.assertIs(decide(yes_table(book, frame, book.atoms(frame)), valuation)[0], yes)
        self.assertEqual(sure(book, sight_of(book, world), ask)[:2], ("sure", yes))
        self.assertEqual(sure(book, ground(book, world, ask), ask)[:2], ("sure", yes))
        literals = tuple(zip(book.atoms(frame), valuation))
        self.assertEqual(realize(book, sight_of(book, world), ask, literals), ("world", (world, ask)))
        keeper = Keeper(book, world)
        self.assertEqual((keeper.asked(ask), keeper.asked(ask), keeper.kept), (yes, yes, (ask,)))
        store = Store(book, world)
        self.assertIs(ask[2] in store.sought(frame[2], what(book, world, ask[0], ask[1], frame[2], *ask[3:])), yes)
        self.assertIs(ask[0] in store.sought(frame[0], who(book, world, ask[2], ask[1], frame[0], *ask[3:])), yes)
        names = found[2] if found[0] != "none" else ()
        self.assertEqual(House(book, world, ask[5]).may(ask[:5]), ({"let": "own", "bar": "barred", "none": "none"}[found[0]], names))
        self.check_claims(book, world, ask, frame, yes)
        return found[0]

    def check_claims(self, book, world, ask, frame, yes):
        """What is claimed for all worlds holds here."""
        if yes:
            self.assertEqual(claimed((book,), frame, ("never",))[0], "broken")
        for atom in book.atoms(frame)[:2]:
            truth = stands(book, world, ask, atom)
            for claim, is_broken in ((("only", atom), yes and not truth), (("if", atom), truth and not yes)):
                if is_broken:
                    self.assertEqual(claimed((book,), frame, claim)[0], "broken")

    def test_small_books(self):
        chance = random.Random(371)
        seen = {}
        for turn in range(80):
            book = book_by_chance(chance) if turn % 3 else REALM_BOOK
            world = by_chance.world(chance, book, NODES, chance.choice((10, 30, 60)))
            ask = ("ana", chance.choice(("view", "copy")), chance.choice(("memo", "zz1")), (chance.random() < 0.5, chance.random() < 0.5), (chance.randint(0, 4),), chance.randint(0, 9))
            effect = self.check(book, world, ask)
            seen[effect] = seen.get(effect, 0) + 1
        self.assertTrue(len(seen) == 3 and min(seen.values()) > 8, seen)

    def test_the_town(self):
        chance = random.Random(372)
        for turn in range(25):
            world = by_chance.world(chance, TOWN_BOOK, TOWN_NODES, 80)
            self.check(TOWN_BOOK, world, (chance.choice(("ana", "bob")), chance.choice(("view", "copy", "edit")), chance.choice(("sheet", "leaf", "memo")),
                                          tuple(chance.random() < 0.5 for _ in range(3)), (chance.randint(0, 5), chance.randint(0, 5)), chance.randint(0, 9)))

    def test_while_a_world_changes(self):
        """What is kept, watched and done in a house stays one and the same."""
        chance = random.Random(373)
        changes = 0
        for turn in range(40):
            book = book_by_chance(chance) if turn % 2 else REALM_BOOK
            world = by_chance.world(chance, book, NODES, 25)
            keeper, watch, house = Keeper(book, world), Watch(book, world), House(book, world, 5)
            asks = {("ana", chance.choice(("view", "copy")), chance.choice(("memo", "zz1")), (chance.random() < 0.5, False), (chance.randint(0, 4),), 5): True for _ in range(5)}
            for ask in asks:
                keeper.asked(ask)
                watch.note(ask)
            effects = {ask: Plain(book.tree).answer(world, ask)[0] for ask in asks}
            for _ in range(25):
                deed = by_chance.deed(chance, book, world)
                if deed[0] in ("node", "drop"):
                    continue
                try:
                    world = done(book, world, deed)
                except BadDeed:
                    continue
                struck = keeper.change(deed)
                turned = watch.change(deed)[2]
                house.do(deed)
                now = {ask: Plain(book.tree).answer(world, ask)[0] for ask in asks}
                self.assertEqual(turned, tuple((ask, effects[ask], now[ask]) for ask in sorted(asks) if effects[ask] != now[ask]))
                for ask in asks:
                    if (effects[ask] == "let") != (now[ask] == "let"):
                        self.assertIn(ask, struck)
                        changes += 1
                    self.assertIs(keeper.asked(ask), now[ask] == "let")
                    self.assertEqual(house.may(ask[:5])[0], {"let": "own", "bar": "barred", "none": "none"}[now[ask]])
                self.assertEqual((keeper.world, watch.world, house.state[1]), (world, world, world))
                effects = now
        self.assertTrue(changes > 10, changes)


if __name__ == "__main__":
    unittest.main()
