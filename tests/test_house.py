"""Houses: asks, loans, deeds, time and trials [54] to [57]."""

import copy
import random
import unittest

from leaveledger.books import Book
from leaveledger.deeds import done
from leaveledger.errors import BadAsk, BadDeed, NoName
from leaveledger.house import House
from leaveledger.reading import read
from leaveledger.worlds import world_of
from tests import chance as by_chance
from tests.plainhouse import PlainHouse
from tests.samples import HOUSE

BOOK = Book(read(HOUSE))
NODES = [("ana", "clerk", ()), ("bob", "clerk", ()), ("cleo", "clerk", ("old",)), ("gus", "guest", ()), ("ivy", "guest", ()), ("red", "team", ()), ("memo", "paper", ()),
         ("leaf", "paper", ()), ("hall", "door", ()), ("desk", "door", ()), ("rules", "paper", ())]
LINKS = [("ana", "in", "red"), ("red", "keeps", "memo"), ("gus", "keeps", "leaf")]
WORLD = world_of(BOOK, NODES, LINKS, [("cleo", "level", 4), ("memo", "level", 2)])
CALM = ((False,), (0,))


def house_with(*loans, now=0, world=WORLD, book=BOOK):
    """A house with loans of these names, givers, takers, and what else is told."""
    house = House(book, world, now)
    for loan in loans:
        house.do(("lend", *loan))
    return house


def lent(name, giver, taker, actions=("view",), thing=None, until=100, depth=0):
    return (name, giver, taker, actions, thing, until, depth)


def viewing(asker, thing="memo", flag=False):
    return (asker, "view", thing, (flag,), (0,))


class MayTest(unittest.TestCase):
    def test_own_and_barred(self):
        house = house_with()
        self.assertEqual(house.may(viewing("ana")), ("own", ("p1",)))
        self.assertEqual(house.may(viewing("bob")), ("none", ()))
        self.assertEqual(house.may(viewing("cleo")), ("barred", ("p5",)))
        self.assertEqual(house_with(now=9).may(viewing("gus", flag=True)), ("barred", ("p2",)))
        self.assertEqual(house_with(now=8).may(viewing("gus", "leaf", True)), ("own", ("p1",)))

    def test_the_moment_of_the_house(self):
        for now, found in ((20, ("own", ("p1",))), (21, ("none", ()))):
            self.assertEqual(house_with(now=now).may(viewing("ana")), found)
            house = house_with(now=now - 1)
            house.do(("tick", 1))
            self.assertEqual(house.may(viewing("ana")), found)

    def test_lent(self):
        house = house_with(lent("l1", "ana", "bob"))
        self.assertEqual(house.may(viewing("bob")), ("lent", ("l1",)))
        self.assertEqual(house.may(viewing("ana")), ("own", ("p1",)))
        self.assertEqual(house.may(viewing("gus")), ("none", ()))
        self.assertEqual(house.may(viewing("bob", "leaf")), ("none", ()))

    def test_what_a_loan_covers(self):
        house = house_with(lent("l1", "ana", "bob", ("edit", "view"), "memo"), lent("l2", "ana", "gus", ("edit",)), lent("l3", "gus", "ivy", ("view",), "memo"))
        self.assertEqual(house.may(viewing("bob")), ("lent", ("l1",)))
        self.assertEqual(house.may(("bob", "edit", "memo", *CALM)), ("lent", ("l1",)))
        self.assertEqual(house.may(("bob", "admit", "hall", *CALM)), ("own", ("p3",)))
        self.assertEqual(house.may(viewing("gus")), ("none", ()))
        self.assertEqual(house.may(("gus", "edit", "memo", *CALM)), ("lent", ("l2",)))
        self.assertEqual(house.may(viewing("ivy", "leaf")), ("none", ()))
        self.assertEqual(house.may(viewing("ivy")), ("none", ()))

    def test_loans_that_have_ended(self):
        house = house_with(lent("l1", "ana", "bob", until=5), now=3)
        self.assertEqual(house.may(viewing("bob")), ("lent", ("l1",)))
        house.do(("tick", 1))
        self.assertEqual(house.may(viewing("bob")), ("lent", ("l1",)))
        house.do(("tick", 1))
        self.assertEqual(house.may(viewing("bob")), ("none", ()))
        self.assertEqual(len(house.state[3]), 1)

    def test_a_giver_that_is_barred(self):
        house = house_with(lent("l1", "cleo", "bob"), lent("l2", "ana", "cleo", depth=5))
        self.assertEqual(house.may(viewing("bob")), ("none", ()))
        self.assertEqual(house.may(viewing("cleo")), ("barred", ("p5",)))
        house.do(("lend", *lent("l3", "ana", "bob")))
        self.assertEqual(house.may(viewing("bob")), ("lent", ("l3",)))

    def test_an_asker_that_is_barred(self):
        house = house_with(lent("l1", "ana", "gus", until=50), now=9)
        self.assertEqual(house.may(viewing("gus")), ("lent", ("l1",)))
        self.assertEqual(house.may(viewing("gus", flag=True)), ("barred", ("p2",)))

    def test_depths(self):
        names = ["ana", "n1", "n2", "n3", "n4", "n5", "n6", "n7"]
        world = world_of(BOOK, [(name, "guest", ()) for name in names] + [("memo", "paper", ())], [("ana", "keeps", "memo")])
        for depth in range(6):
            for many in range(1, 8):
                # The last loan of a chain of so many has one less in front of it.
                house = house_with(*[lent(f"l{at}", names[at], names[at + 1], depth=many - at - 1 if many - at - 1 < 5 else 5) for at in range(many)], world=world)
                self.assertEqual(house.may(viewing(names[many])), ("lent", tuple(f"l{at}" for at in reversed(range(many)))) if many <= 6 else ("none", ()))
                house = house_with(*[lent(f"l{at}", names[at], names[at + 1], depth=depth) for at in range(many)], world=world)
                chain = tuple(f"l{at}" for at in reversed(range(many)))
                self.assertEqual(house.may(viewing(names[many])), ("lent", chain) if many - 1 <= depth else ("none", ()), (depth, many))

    def test_the_depth_counts_the_loans_in_front(self):
        for first, second, allowed in ((0, 1, True), (0, 0, False), (5, 0, False), (5, 1, True)):
            house = house_with(lent("l1", "bob", "gus", depth=first), lent("l2", "ana", "bob", depth=second))
            self.assertEqual(house.may(viewing("gus")), ("lent", ("l1", "l2")) if allowed else ("none", ()))

    def test_the_first_of_the_shortest(self):
        loans = [lent("b", "ana", "bob", depth=5), lent("a", "bob", "ivy", depth=5), lent("c", "ana", "ivy", depth=5), lent("d", "ana", "ivy", depth=5), lent("aa", "ana", "bob", depth=1)]
        self.assertEqual(house_with(*loans).may(viewing("ivy")), ("lent", ("c",)))
        self.assertEqual(house_with(loans[3], *loans[:2], loans[4]).may(viewing("ivy")), ("lent", ("d",)))
        self.assertEqual(house_with(*loans[:2], loans[4]).may(viewing("ivy")), ("lent", ("a", "aa")))
        self.assertEqual(house_with(*loans[:2], lent("a0", "bob", "ivy")).may(viewing("ivy")), ("lent", ("a", "b")))
        both = [lent("x", "bob", "ivy"), lent("w", "gus", "ivy"), lent("k", "ana", "bob", depth=1), lent("m", "ana", "gus", depth=1)]
        self.assertEqual(house_with(*both).may(viewing("ivy")), ("lent", ("w", "m")))

    def test_a_longer_way_with_more_depth(self):
        house = house_with(lent("a", "bob", "gus"), lent("b", "ana", "bob"), lent("c", "ivy", "gus"), lent("d", "bob", "ivy", depth=1), lent("e", "ana", "bob", depth=2))
        self.assertEqual(house.may(viewing("gus")), ("lent", ("a", "e")))
        house = house_with(lent("a", "bob", "gus"), lent("b", "ana", "bob"))
        self.assertEqual(house.may(viewing("gus")), ("none", ()))

    def test_rings(self):
        ring = [lent("a", "bob", "gus", depth=5), lent("b", "ivy", "bob", depth=5), lent("c", "gus", "ivy", depth=5)]
        self.assertEqual([house_with(*ring).may(viewing(name)) for name in ("gus", "bob", "ivy")], [("none", ())] * 3)
        house = house_with(*ring, lent("d", "ana", "ivy", depth=2))
        self.assertEqual([house.may(viewing(name))[1] for name in ("gus", "bob", "ivy")], [("a", "b", "d"), ("b", "d"), ("d",)])

    def test_asks_that_do_not_fit(self):
        house = house_with(lent("l1", "ana", "bob"))
        right = viewing("bob")
        for at, part in ((0, "memo"), (0, "none"), (0, ["bob"]), (1, "none"), (1, None), (2, "red"), (2, "bob"), (3, ()), (3, (0,)), (3, [False]), (4, ()), (4, (True,)), (4, (10000,))):
            for call in (house.may, house.turns):
                with self.assertRaises(BadAsk) as caught:
                    call((*right[:at], part, *right[at + 1:]))
                self.assertEqual(caught.exception.part, at)
        for ask, at in ((right[:4], 4), (right[:1], 1), ((), 0), ((*right, 0), 5), ((*right, 0, 0), 5), (list(right), 0), (None, 0)):
            for call in (house.may, house.turns):
                with self.assertRaises(BadAsk) as caught:
                    call(ask)
                self.assertEqual(caught.exception.part, at)


class DeedsTest(unittest.TestCase):
    def bad(self, house, *deeds):
        before = house.state
        for deed in deeds:
            with self.assertRaises(BadDeed):
                house.do(deed)
            self.assertEqual(house.state, before, deed)

    def test_state(self):
        house = House(BOOK, WORLD)
        self.assertEqual((house.state, house.now, house.rows), ((BOOK.tree, WORLD, 0, ()), 0, ()))
        self.assertEqual(House(BOOK, WORLD, 7).state, (BOOK.tree, WORLD, 7, ()))
        self.assertIsNone(house.do(("tick", 3)))
        self.assertEqual((house.now, house.state[2], house.rows), (3, 3, ()))

    def test_deeds_of_worlds(self):
        house = House(BOOK, WORLD)
        world = WORLD
        for deed in (("node", "zz1", "team", ("gold",), ()), ("link", "bob", "in", "zz1"), ("link", "zz1", "keeps", "leaf"), ("cut", "ana", "in", "red"), ("tag", "bob", "old", True),
                     ("number", "bob", "level", 9), ("drop", "red")):
            house.do(deed)
            world = done(BOOK, world, deed)
            self.assertEqual(house.state, (BOOK.tree, world, 0, ()))
        self.bad(house, ("drop", "red"), ("link", "bob", "in", "zz1"), ("cut", "ana", "in", "red"), ("node", "ana", "clerk", (), ()), ("tag", "zz1", "gold", True), ("number", "bob", "size", 1))

    def test_none_of_the_deeds(self):
        self.bad(House(BOOK, WORLD), None, (), 5, "tick", ["tick", 1], ("none",), ("tick",), ("tick", 1, 1), ("back",), ("back", "x", "y"), ("enact",), ("repeal",), ("lend",), (("tick",), 1),
                 ("drop",), ("link", "ana", "in"), ("lend", "l1", "ana", "bob", ("view",), None, 9), ("lend", "l1", "ana", "bob", ("view",), None, 9, 0, 0), (None, 1), ("repeal", "p1", 1))

    def test_lend(self):
        house = House(BOOK, WORLD, 4)
        house.do(("lend", *lent("l2", "ana", "bob", until=5)))
        house.do(("lend", *lent("l1", "gus", "ana", ("edit", "view", "admit"), "memo", 9999, 5)))
        self.assertEqual(house.state[3], (lent("l1", "gus", "ana", ("edit", "view", "admit"), "memo", 9999, 5), lent("l2", "ana", "bob", until=5)))
        right = ("lend", *lent("l3", "ana", "bob"))
        wrong = {1: ("l1", "l2", "zz3", "zz", "", "L3", "asker", "toolongname", None, ["l3"], 3), 2: ("bob", "memo", "red", "none", None, ["ana"], "boss"), 3: ("ana", "leaf", "none", None, ("bob",)),
                 4: ((), "view", ["view"], ("view", "view"), ("none",), (None,), ("view", "@both"), ("both",), (("view",),), None), 5: ("red", "ana", "none", "", ("memo",), False, "boss"),
                 6: (4, 3, 0, 10000, True, None, "9"), 7: (-1, 6, True, False, None, "0")}
        for at, parts in wrong.items():
            self.bad(house, *[(*right[:at], part, *right[at + 1:]) for part in parts])
        house.do(right)
        self.bad(house, right)

    def test_many_actions(self):
        names = tuple(f"a{at}" for at in range(9))
        book = Book(read(f"asker clerk ; thing paper ; action {' '.join(names[:8])} ; action {names[8]} ;"))
        world = world_of(book, [("ana", "clerk", ()), ("bob", "clerk", ())], ())
        house = House(book, world)
        house.do(("lend", *lent("l1", "ana", "bob", names[:8])))
        self.bad(house, ("lend", *lent("l2", "ana", "bob", names)))

    def test_back(self):
        house = house_with(lent("l1", "ana", "bob", until=5), lent("l2", "ana", "gus"))
        self.bad(house, ("back", "l3"), ("back", "ana"), ("back", None), ("back", ["l1"]), ("back", ""))
        house.do(("tick", 10))
        # A loan that has ended is still there.
        self.bad(house, ("lend", *lent("l1", "ana", "ivy")))
        house.do(("back", "l1"))
        self.assertEqual([loan[0] for loan in house.state[3]], ["l2"])
        self.bad(house, ("back", "l1"))
        house.do(("lend", *lent("l1", "ana", "ivy")))
        self.assertEqual([loan[:3] for loan in house.state[3]], [("l1", "ana", "ivy"), ("l2", "ana", "gus")])

    def test_dropped_nodes(self):
        loans = [lent("l1", "ana", "bob"), lent("l2", "bob", "gus", thing="memo"), lent("l3", "gus", "ana", thing="leaf"), lent("l4", "ivy", "gus")]
        for name, left in (("ana", ["l2", "l4"]), ("bob", ["l3", "l4"]), ("gus", ["l1"]), ("memo", ["l1", "l3", "l4"]), ("leaf", ["l1", "l2", "l4"]), ("red", ["l1", "l2", "l3", "l4"]),
                           ("cleo", ["l1", "l2", "l3", "l4"])):
            house = house_with(*loans)
            house.do(("drop", name))
            self.assertEqual([loan[0] for loan in house.state[3]], left)
            for loan in ("l1", "l2", "l3", "l4"):
                if loan not in left:
                    self.bad(house, ("back", loan))

    def test_enact(self):
        house = House(BOOK, WORLD)
        line = ("let", "p7", 9, ("clerk", "guest"), ("@both",), ("paper",), ("walk", "sees", "thing"), ("log",))
        house.do(("enact", line))
        self.assertEqual(house.state[0], (*BOOK.tree, line))
        self.assertEqual(house.may(viewing("ana")), ("own", ("p7",)))
        house.do(("enact", ("bar", "p8", 9, ("guest",), ("edit",), ("paper",), ("always",), ())))
        self.assertEqual(house.may(("gus", "edit", "memo", *CALM)), ("barred", ("p8",)))
        self.bad(house, ("enact", line), ("enact", (*line[:1], "p9", *line[2:4], ("none",), *line[5:])), ("enact", (*line[:1], "p9", *line[2:6], ("flag", "none"), ())))
        for other in (None, (), "let", list(line), ("asker", ("x",)), ("walk", "w", ("named", "sees")), ("when", "c", ("always",)), ("gate", "node", "view", "memo"), (line,), line[:7],
                      ("let", "p9", 100, *line[3:]), ("bar", "p9", *line[2:]), (("let",), "p9", *line[2:]), ("let", "zz1", *line[2:]), ("role", "r", ("view",)), 7):
            self.bad(house, ("enact", other))

    def test_sixty_lines(self):
        rest = tuple(("role", f"r{at}", ("view",)) for at in range(59 - len(BOOK.tree)))
        house = House(Book((*BOOK.tree, *rest)), WORLD)
        line = ("let", "p7", 9, ("guest",), ("admit",), ("door",), ("always",), ())
        house.do(("enact", line))
        self.assertEqual(len(house.state[0]), 60)
        self.bad(house, ("enact", (*line[:1], "p8", *line[2:])))
        house.do(("repeal", "p1"))
        house.do(("enact", (*line[:1], "p8", *line[2:])))

    def test_many_atoms(self):
        house = House(BOOK, WORLD)
        for at in range(5):
            line = ("let", f"q{at}", 1, ("clerk",), ("view",), ("paper",), ("atmost", "now", "0", at), ())
            if at < 4:
                house.do(("enact", line))
        self.bad(house, ("enact", line))

    def test_repeal(self):
        house = House(BOOK, WORLD)
        house.do(("repeal", "p1"))
        self.assertEqual(house.state[0], tuple(line for line in BOOK.tree if line[1] != "p1"))
        self.assertEqual(house.may(viewing("ana")), ("none", ()))
        self.bad(house, ("repeal", "p1"), ("repeal", "sees"), ("repeal", "both"), ("repeal", "in"), ("repeal", "clerk"), ("repeal", None), ("repeal", ["p2"]), ("repeal", ()))
        house.do(("repeal", "p2"))
        house.do(("enact", [line for line in BOOK.tree if line[1] == "p1"][0]))
        self.assertEqual(house.state[0][-1][1], "p1")

    def test_tick(self):
        house = House(BOOK, WORLD, 9990)
        self.bad(house, ("tick", 0), ("tick", -1), ("tick", True), ("tick", False), ("tick", None), ("tick", "1"), ("tick", 10), ("tick", 10 ** 9))
        house.do(("tick", 9))
        self.assertEqual(house.now, 9999)
        self.bad(house, ("tick", 1), ("lend", *lent("l1", "ana", "bob", until=9999)))

    def test_answers_follow_the_state(self):
        house = house_with(lent("l1", "ana", "bob"))
        house.do(("cut", "ana", "in", "red"))
        self.assertEqual(house.may(viewing("bob")), ("none", ()))
        house.do(("link", "bob", "keeps", "memo"))
        self.assertEqual(house.may(viewing("bob")), ("own", ("p1",)))
        house.do(("repeal", "p1"))
        self.assertEqual(house.may(viewing("bob")), ("none", ()))

    def test_houses_do_not_share(self):
        first, second = house_with(lent("l1", "ana", "bob")), house_with(lent("l1", "ana", "bob"))
        first.do(("back", "l1"))
        first.do(("drop", "ana"))
        self.assertEqual(second.state, (BOOK.tree, WORLD, 0, (lent("l1", "ana", "bob"),)))


class TurnsTest(unittest.TestCase):
    def test_comparisons(self):
        house = house_with()
        self.assertEqual(house.turns(viewing("ana")), 21)
        self.assertIsNone(house_with(now=21).turns(viewing("ana")))
        self.assertEqual(house_with(now=20).turns(viewing("ana")), 21)
        self.assertIsNone(house.turns(viewing("bob")))
        self.assertEqual(house.turns(("bob", "edit", "memo", *CALM)), 15)
        self.assertEqual(house.turns(("cleo", "edit", "memo", *CALM)), 19)
        self.assertIsNone(house.turns(("ana", "edit", "memo", *CALM)))
        self.assertEqual(house_with(now=8).turns(viewing("gus", "leaf", True)), 9)

    def test_the_end_of_a_loan(self):
        house = house_with(lent("l1", "ana", "bob", until=5))
        self.assertEqual(house.turns(viewing("bob")), 5)
        house.do(("lend", *lent("l2", "ana", "bob", until=12)))
        self.assertEqual(house.turns(viewing("bob")), 12)
        house.do(("lend", *lent("l3", "ana", "bob", until=500)))
        self.assertEqual(house.turns(viewing("bob")), 21)
        self.assertIsNone(house_with(lent("l1", "ana", "bob", until=5), now=4).turns(viewing("bob", "leaf")))

    def test_what_a_giver_may_turns(self):
        house = house_with(lent("l1", "bob", "gus", ("edit",)))
        self.assertEqual(house.may(("gus", "edit", "memo", *CALM)), ("none", ()))
        self.assertEqual(house.turns(("gus", "edit", "memo", *CALM)), 15)
        self.assertIsNone(house_with(lent("l1", "bob", "gus", ("edit",), until=15)).turns(("gus", "edit", "memo", *CALM)))
        self.assertEqual(house_with(lent("l1", "bob", "gus", ("edit",), until=20), now=15).turns(("gus", "edit", "memo", *CALM)), 20)
        self.assertEqual(house_with(lent("l1", "bob", "gus", ("edit",)), lent("l2", "gus", "ivy", ("edit",)), lent("l3", "bob", "gus", ("edit",), depth=1)).turns(("ivy", "edit", "memo", *CALM)), 15)

    def test_a_bar_that_ends(self):
        """Cleo is barred as long as now is at most 8; then what she lends and is lent counts."""
        house = house_with(lent("l1", "cleo", "gus"), lent("l2", "ana", "cleo", depth=1))
        self.assertEqual(house.may(viewing("gus")), ("none", ()))
        self.assertEqual(house.turns(viewing("gus")), 9)
        self.assertEqual(house.turns(viewing("cleo")), 9)
        house.do(("tick", 9))
        self.assertEqual(house.may(viewing("gus")), ("lent", ("l1", "l2")))
        self.assertEqual(house.turns(viewing("gus")), 21)

    def test_at_the_last_moment(self):
        world = world_of(BOOK, NODES, LINKS, [("ana", "level", 9979), ("bob", "level", 9978)])
        house = house_with(world=world)
        self.assertIsNone(house.turns(viewing("ana")))
        world = world_of(BOOK, NODES, [*LINKS, ("bob", "in", "red")], [("ana", "level", 9979), ("bob", "level", 9978)])
        self.assertEqual(house_with(world=world).turns(viewing("bob")), 9999)
        self.assertEqual(house_with(lent("l1", "ana", "gus", until=9999), world=world).turns(viewing("gus")), 9999)
        self.assertIsNone(house_with(world=world, now=9999).turns(viewing("bob")))


class HungTest(unittest.TestCase):
    def test_some(self):
        house = house_with(lent("l1", "ana", "bob"), lent("l2", "bob", "gus", depth=0), lent("l3", "ana", "ivy"), lent("l4", "ana", "ivy"))
        self.assertEqual(house.hung("l1", "view", *CALM), (("bob", "memo"),))
        self.assertEqual(house.hung("l2", "view", *CALM), ())
        self.assertEqual(house.hung("l3", "view", *CALM), ())
        self.assertEqual(house.hung("l1", "edit", *CALM), ())
        house.do(("back", "l3"))
        self.assertEqual(house.hung("l4", "view", *CALM), (("ivy", "memo"),))
        house.do(("back", "l1"))
        house.do(("lend", *lent("l1", "ana", "bob", depth=1)))
        self.assertEqual(house.hung("l1", "view", *CALM), (("bob", "memo"), ("gus", "memo")))
        self.assertEqual(house.hung("l2", "view", *CALM), (("gus", "memo"),))

    def test_several_things(self):
        house = house_with(lent("l1", "ana", "bob"), lent("l2", "gus", "bob"))
        house.do(("link", "red", "keeps", "leaf"))
        self.assertEqual(house.hung("l1", "view", *CALM), (("bob", "memo"),))
        self.assertEqual(house.hung("l2", "view", *CALM), ())
        house.do(("link", "red", "keeps", "rules"))
        self.assertEqual(house.hung("l1", "view", *CALM), (("bob", "memo"), ("bob", "rules")))
        house.do(("lend", *lent("l0", "ana", "gus", thing="rules")))
        self.assertEqual(house.hung("l0", "view", *CALM), (("gus", "rules"),))
        self.assertEqual(house.hung("l0", "edit", *CALM), ())

    def test_several_askers(self):
        house = house_with(lent("l1", "ana", "ivy", depth=1), lent("l2", "ivy", "gus"))
        house.do(("link", "red", "keeps", "rules"))
        self.assertEqual(house.hung("l1", "view", *CALM), (("gus", "memo"), ("gus", "rules"), ("ivy", "memo"), ("ivy", "rules")))

    def test_before_and_behind_a_loan_is_taken_back(self):
        house = house_with(lent("l1", "ana", "bob", depth=1), lent("l2", "bob", "gus"))
        found = house.hung("l1", "view", *CALM)
        self.assertEqual(found, (("bob", "memo"), ("gus", "memo")))
        self.assertTrue(all(house.may(viewing(asker, thing))[0] == "lent" for asker, thing in found))
        house.do(("back", "l1"))
        self.assertTrue(all(house.may(viewing(asker, thing)) == ("none", ()) for asker, thing in found))
        with self.assertRaises(NoName):
            house.hung("l1", "view", *CALM)

    def test_loans_that_have_ended(self):
        house = house_with(lent("l1", "ana", "bob", until=5))
        house.do(("tick", 5))
        self.assertEqual(house.hung("l1", "view", *CALM), ())

    def test_errors(self):
        house = house_with(lent("l1", "ana", "bob"))
        for name in ("l2", "ana", "", "view"):
            for parts in (("view", *CALM), ("none", None, None)):
                with self.assertRaises(NoName) as caught:
                    house.hung(name, *parts)
                self.assertEqual(caught.exception.name, name)
        for parts, at in ((("none", *CALM), 1), ((None, None, None), 1), (("view", (), (0,)), 3), (("view", (0,), (0,)), 3), (("view", [False], None), 3), (("view", (False,), ()), 4),
                          (("view", (False,), (True,)), 4), (("view", (False,), (10000,)), 4), (("view", (False,), [0]), 4)):
            alone = house_with(lent("l1", "ana", "bob"), world=world_of(BOOK, NODES[:2], ()))
            for other in (house, alone):
                with self.assertRaises(BadAsk) as caught:
                    other.hung("l1", *parts)
                self.assertEqual(caught.exception.part, at)


class TrialTest(unittest.TestCase):
    DEEDS = (("tick", 5), ("lend", *lent("l2", "ana", "gus")), ("back", "l1"), ("drop", "bob"), ("repeal", "p1"), ("enact", ("let", "p9", 9, ("guest",), ("view",), ("paper",), ("always",), ())),
             ("node", "zz1", "guest", (), ()), ("cut", "ana", "in", "red"))

    def test_behind_the_block(self):
        house = house_with(lent("l1", "ana", "bob"))
        house.enter("ana", ("tick", 1))
        before = (house.state, house.rows, house.now)
        with house.trial() as held:
            self.assertTrue(held is house)
            for deed in self.DEEDS:
                held.do(deed)
            held.enter("ana", ("tick", 1))
            self.assertEqual((house.now, house.rows[1:]), (7, (("ana", ("tick", 1)),)))
            self.assertEqual(house.may(viewing("gus")), ("own", ("p9",)))
        self.assertEqual((house.state, house.rows, house.now), before)
        self.assertEqual(house.may(viewing("bob")), ("lent", ("l1",)))
        self.assertEqual(house.may(viewing("gus")), ("none", ()))

    def test_left_by_an_error(self):
        house = house_with(lent("l1", "ana", "bob"))
        before = (house.state, house.rows, house.now)
        for error, deed in ((ValueError, None), (BadDeed, ("back", "none")), (ZeroDivisionError, None)):
            with self.assertRaises(error):
                with house.trial() as held:
                    for done_deed in self.DEEDS:
                        held.do(done_deed)
                    if deed is not None:
                        held.do(deed)
                    raise error()
            self.assertEqual((house.state, house.rows, house.now), before)
            self.assertEqual(house.may(viewing("bob")), ("lent", ("l1",)))

    def test_left_by_return(self):
        house = house_with()

        def state_behind():
            with house.trial() as held:
                held.do(("tick", 4))
                return held.state
        self.assertEqual(state_behind()[2], 4)
        self.assertEqual(house.now, 0)

    def test_alone(self):
        house = house_with()
        before = house.state
        trial = house.trial()
        self.assertEqual((house.state, house.rows), (before, ()))
        house.do(("tick", 4))
        with trial:
            house.do(("tick", 1))
            self.assertEqual(house.now, 5)
        # What was when the block was entered, not when the trial was made.
        self.assertEqual(house.now, 4)
        with trial:
            house.do(("tick", 7))
        self.assertEqual(house.now, 4)

    def test_nested(self):
        house = house_with(lent("l1", "ana", "bob"))
        states = [house.state]
        with house.trial():
            house.do(("tick", 1))
            states.append(house.state)
            with house.trial() as held:
                held.do(("back", "l1"))
                states.append(house.state)
                with self.assertRaises(ValueError):
                    with held.trial():
                        held.do(("drop", "ana"))
                        raise ValueError()
                self.assertEqual(house.state, states[2])
            self.assertEqual(house.state, states[1])
            with house.trial():
                house.do(("repeal", "p1"))
            self.assertEqual(house.state, states[1])
        self.assertEqual(house.state, states[0])

    def test_what_was_shown_stays(self):
        house = house_with(lent("l1", "ana", "bob"))
        shown = (house.state, house.rows, house.may(viewing("bob")))
        kept = copy.deepcopy(shown)
        for deed in self.DEEDS:
            house.do(deed)
        self.assertEqual(shown, kept)


def deed_by_chance(chance, house):
    """A deed of any kind, that can be done more often than not."""
    tree, world, now, loans = house.state
    askers = [name for name, kind, _ in world[0] if kind in ("clerk", "guest")] or ["none"]
    things = [name for name, kind, _ in world[0] if kind in ("paper", "door")]
    word = chance.choice(("world", "world", "lend", "lend", "lend", "back", "enact", "repeal", "tick"))
    if word == "world":
        deed = by_chance.deed(chance, BOOK, world)
        return (*deed[:1], chance.choice(("zz3", "red", "leaf", "hall", "gus")), *deed[2:]) if deed[0] == "node" else deed
    if word == "lend":
        actions = tuple(chance.sample(("view", "edit", "admit"), chance.randint(1, 3)))
        return (word, chance.choice(("a", "b", "c", "d", "e", "f")), chance.choice(askers), chance.choice(askers), actions, chance.choice((None, None, *things)), now + chance.randint(0, 25), chance.randint(0, 3))
    if word == "back":
        return (word, chance.choice(("a", "b", "c", "d")))
    if word == "tick":
        return (word, chance.randint(0, 4))
    if word == "repeal":
        return (word, chance.choice(("p1", "p2", "p3", "p4", "p5", "p6", "q1", "q2", "q3")))
    cond = chance.choice((("always",), ("walk", "sees", "thing"), ("atmost", "now", "asker.level", 12), ("flag", "inside"), ("flag", "none")))
    line = (chance.choice(("let", "bar")), chance.choice(("q1", "q2", "q3")), chance.randint(1, 8), ("clerk",), (chance.choice(("view", "edit", "@both")),), ("paper",), cond, ())
    return (word, line)


class ByChanceTest(unittest.TestCase):
    def test_by_chance(self):
        chance = random.Random(341)
        seen, found = {}, {}
        for turn in range(20):
            world = by_chance.world(chance, BOOK, NODES, 60)
            house, plain = House(BOOK, world, 2), PlainHouse(BOOK, world, 2)
            for step in range(40):
                deed = deed_by_chance(chance, house)
                try:
                    plain.do(deed)
                    house.do(deed)
                    seen[deed[0]] = seen.get(deed[0], 0) + 1
                except BadDeed:
                    with self.assertRaises(BadDeed):
                        house.do(deed)
                self.assertEqual(house.state, plain.state)
                if step % 5 == 0:
                    self.check_asks(chance, house, plain, found)
        self.assertTrue(len(seen) == 11, seen)
        self.assertTrue(len(found) >= 7 and min(found.values()) > 2, found)

    def test_chains_by_chance(self):
        chance = random.Random(342)
        names = ("ana", "bob", "cleo", "gus", "ivy")
        seen = {}
        for turn in range(30):
            house, plain = House(BOOK, WORLD), PlainHouse(BOOK, WORLD)
            for name in chance.sample(("a", "b", "bb", "c", "d", "e"), chance.randint(3, 6)):
                loan = lent(name, *chance.sample(names, 2), thing=chance.choice((None, None, None, "memo")), until=chance.randint(1, 30), depth=chance.randint(0, 4))
                house.do(("lend", *loan))
                plain.do(("lend", *loan))
            for now in (0, 6):
                if now:
                    house.do(("tick", now))
                    plain.do(("tick", now))
                for name in names:
                    found = house.may(viewing(name))
                    self.assertEqual(found, plain.may(viewing(name)), (name, house.state))
                    seen[len(found[1]) if found[0] == "lent" else found[0]] = True
                    if turn < 8:
                        self.assertEqual(house.turns(viewing(name)), plain.turns(viewing(name), 40))
                for loan in plain.loans:
                    self.assertEqual(house.hung(loan[0], "view", *CALM), plain.hung(loan[0], "view", *CALM))
        self.assertEqual(set(seen), {1, 2, 3, "own", "barred", "none"})

    def check_asks(self, chance, house, plain, found):
        askers, things = plain.sorts("asker"), plain.sorts("thing")
        if not askers or not things or len(plain.loans) > 5:
            return
        for _ in range(4):
            loan = chance.choice(plain.loans or (("", "", chance.choice(askers), ("view",), None),))
            ask = (loan[2], chance.choice(loan[3]), chance.choice(things) if loan[4] is None else loan[4], (chance.random() < 0.3,), (chance.randint(0, 6),))
            word, names = house.may(ask)
            self.assertEqual((word, names), plain.may(ask), (ask, house.state))
            turning = plain.turns(ask, house.now + 40)
            self.assertEqual(house.turns(ask), turning)
            for key in (word, ("chain", len(names)) if word == "lent" else word, ("turns", turning is not None)):
                found[key] = found.get(key, 0) + 1
        for loan in plain.loans:
            parts = (chance.choice(loan[3]), (chance.random() < 0.3,), (chance.randint(0, 6),))
            self.assertEqual(house.hung(loan[0], *parts), plain.hung(loan[0], *parts))


if __name__ == "__main__":
    unittest.main()
