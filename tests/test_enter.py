"""Deeds in the name of askers, and the gates that guard them [58]."""

import random
import unittest

from leaveledger.books import Book
from leaveledger.errors import BadDeed, Refused
from leaveledger.house import House
from leaveledger.reading import read
from leaveledger.worlds import world_of
from tests import chance as by_chance
from tests.plainhouse import PlainHouse
from tests.samples import HOUSE
from tests.test_house import BOOK, LINKS, NODES, WORLD, deed_by_chance, house_with, lent

LINE = ("let", "p9", 9, ("guest",), ("admit",), ("paper",), ("always",), ())


class EnterTest(unittest.TestCase):
    def lets(self, house, by, *deeds):
        for deed in deeds:
            with house.trial():
                rows = house.rows
                self.assertIsNone(house.enter(by, deed))
                self.assertEqual(house.rows, (*rows, (by, deed)))

    def refuses(self, house, by, *deeds, error=Refused):
        before = (house.state, house.rows)
        for deed in deeds:
            with self.assertRaises(error):
                house.enter(by, deed)
            self.assertEqual((house.state, house.rows), before, deed)

    def bad(self, house, by, *deeds):
        self.refuses(house, by, *deeds, error=BadDeed)

    def test_rows(self):
        house = house_with()
        self.assertEqual(house.rows, ())
        house.do(("tick", 1))
        house.enter("ana", ("tick", 2))
        house.enter("gus", ("tick", 1))
        house.enter("ana", ("link", "bob", "in", "red"))
        self.assertEqual(house.rows, (("ana", ("tick", 2)), ("gus", ("tick", 1)), ("ana", ("link", "bob", "in", "red"))))
        self.assertEqual(house.now, 4)

    def test_who_is_no_asker(self):
        house = house_with(lent("l1", "ana", "bob"))
        for by in ("red", "memo", "none", "boss", "clerk", "", None, ["ana"], 3):
            self.refuses(house, by, ("tick", 1), ("back", "l1"), ("link", "ana", "keeps", "leaf"), ("none",), None, ("tick", 0), ("lend", *lent("l2", "ana", "bob")))

    def test_a_gate_for_a_tie(self):
        """Links by in are guarded by admit on hall, which clerks may who are not old; the second gate does not count."""
        house = house_with()
        for deed in (("link", "gus", "in", "red"), ("cut", "ana", "in", "red")):
            self.lets(house, "ana", deed)
            self.lets(house, "bob", deed)
            self.refuses(house, "cleo", deed)
            self.refuses(house, "gus", deed)
        self.bad(house, "ana", ("link", "ana", "in", "red"), ("cut", "gus", "in", "red"), ("link", "ana", "in", "memo"), ("link", "ana", "in", ["red"]), ("link", None, "in", None))
        self.refuses(house, "gus", ("link", "ana", "in", "red"), ("cut", "gus", "in", "red"), ("link", None, "in", None))

    def test_ties_without_a_gate(self):
        house = house_with()
        for by in ("ana", "cleo", "gus"):
            self.lets(house, by, ("link", "bob", "keeps", "memo"), ("cut", "gus", "keeps", "leaf"), ("link", "bob", "owns", "leaf"))
            self.bad(house, by, ("link", "gus", "owns", "leaf"), ("cut", "gus", "keeps", "memo"))

    def test_what_is_no_tie(self):
        """It is free, whatever it is called, and cannot be done."""
        house = house_with()
        for tie in ("none", "node", "tag", "rule", "gold", "boss", None, ["in"], ("in",), 1):
            self.bad(house, "gus", ("link", "ana", tie, "red"), ("cut", "ana", tie, "red"))

    def test_a_thing_that_is_not_there(self):
        house = house_with()
        self.lets(house, "ana", ("node", "zz1", "team", (), ()), ("drop", "leaf"))
        house.do(("drop", "desk"))
        for by in ("ana", "bob", "cleo", "gus"):
            self.refuses(house, by, ("node", "zz1", "team", (), ()), ("drop", "leaf"), ("drop", "none"), ("node", "ana", "clerk", (), ()))
        # A node of this name that is no thing does not help.
        house.do(("node", "desk", "guest", (), ()))
        self.refuses(house, "ana", ("drop", "leaf"))
        house.do(("drop", "desk"))
        house.do(("node", "desk", "door", (), ()))
        self.lets(house, "ana", ("drop", "leaf"))

    def test_a_gate_for_nodes(self):
        house = house_with()
        for by in ("cleo", "gus"):
            self.refuses(house, by, ("node", "zz1", "team", (), ()), ("drop", "leaf"), ("node", "zz1", "none", (), ()))
        self.bad(house, "ana", ("node", "ana", "clerk", (), ()), ("drop", "none"), ("node", "zz1", "none", (), ()))

    def test_a_gate_for_tags(self):
        """Tags and numbers are guarded by view on memo."""
        house = house_with()
        self.lets(house, "ana", ("tag", "bob", "old", True), ("number", "memo", "level", 4), ("tag", "bob", "old", False))
        self.bad(house, "ana", ("tag", "red", "gold", True), ("number", "memo", "level", -1), ("tag", "none", "none", None))
        for by in ("bob", "gus", "cleo"):
            self.refuses(house, by, ("tag", "bob", "old", True), ("number", "memo", "level", 4), ("tag", "red", "gold", True))

    def test_a_gate_for_rules(self):
        """Rules are guarded by edit on rules, which needs a way there, or time."""
        house = house_with()
        deeds = (("enact", LINE), ("repeal", "p1"))
        self.refuses(house, "ana", *deeds, ("repeal", "none"), ("enact", ()))
        house.do(("link", "red", "keeps", "rules"))
        self.lets(house, "ana", *deeds)
        self.refuses(house, "bob", *deeds)
        self.bad(house, "ana", ("repeal", "none"), ("enact", ()), ("enact", ("asker", ("x",))), ("enact", None))
        house.do(("tick", 15))
        self.lets(house, "bob", *deeds)

    def test_books_without_gates(self):
        book = Book(tuple(line for line in BOOK.tree if line[0] != "gate"))
        house = house_with(lent("l1", "ana", "bob"), book=book)
        for by in ("ana", "cleo", "gus"):
            self.lets(house, by, ("link", "gus", "in", "red"), ("node", "zz1", "team", (), ()), ("drop", "ana"), ("tag", "bob", "old", True), ("number", "bob", "level", 1), ("repeal", "p1"), ("enact", LINE))
        self.refuses(house, "gus", ("back", "l1"))

    def test_free_deeds(self):
        house = house_with()
        for by in ("ana", "cleo", "gus"):
            self.lets(house, by, ("tick", 3))
            self.bad(house, by, ("tick", 0), ("tick", True), ("tick", 10000), ("none", "x"), (), None, ["tick", 1], "tick", ("drop",), ("drop", "ana", "bob"), ("enact",), ("back",), ("lend",),
                     ("lend", "l1", "bob", "ana"), ("link", "ana", "in"), ("node", "zz1", "team", ()), ("tag", "ana"), (("drop",), "ana"), ("tick", 1, 1))

    def test_lend_and_back(self):
        house = house_with(lent("l1", "ana", "bob"))
        self.lets(house, "ana", ("lend", *lent("l2", "ana", "gus")), ("back", "l1"))
        self.lets(house, "gus", ("lend", *lent("l2", "gus", "ana")))
        for by in ("bob", "cleo", "gus"):
            self.refuses(house, by, ("lend", *lent("l2", "ana", "gus")), ("back", "l1"), ("lend", *lent("l1", "ana", "gus")), ("lend", *lent("l2", None, by)))
        self.bad(house, "ana", ("lend", *lent("l1", "ana", "gus")), ("lend", *lent("l2", "ana", "ana")), ("lend", *lent("l2", "ana", "bob", ("none",))), ("lend", *lent(["l2"], "ana", "bob")))
        for by in ("ana", "bob", "gus"):
            self.refuses(house, by, ("back", "l2"), ("back", "ana"), ("back", None), ("back", ["l1"]))

    def test_a_loan_can_open_a_gate(self):
        house = house_with(lent("l1", "ana", "gus", ("admit",), until=5))
        self.assertEqual(house.may(("gus", "admit", "hall", (False,), (0,))), ("lent", ("l1",)))
        self.lets(house, "gus", ("link", "gus", "in", "red"), ("drop", "leaf"))
        house.do(("tick", 5))
        self.refuses(house, "gus", ("link", "gus", "in", "red"), ("drop", "leaf"))

    def test_the_ask_of_a_gate(self):
        """All flags are False and all numbers 0, and now is the house's."""
        book = Book(read(HOUSE.split("gate in")[0] + """gate owns by admit on hall ; let p1 rank 1 guest may admit on door when ask.amount <= 0 ;
            let p2 rank 1 clerk may admit on door when ask is inside or now <= 0 + 4 ;"""))
        house = House(book, WORLD)
        self.lets(house, "gus", ("link", "bob", "owns", "leaf"))
        self.lets(house, "ana", ("link", "bob", "owns", "leaf"))
        house.do(("tick", 5))
        self.lets(house, "gus", ("link", "bob", "owns", "leaf"))
        self.refuses(house, "ana", ("link", "bob", "owns", "leaf"))

    def test_as_the_house_is_in_front_of_the_deed(self):
        house = house_with()
        house.enter("ana", ("tag", "ana", "old", True))
        self.refuses(house, "ana", ("link", "gus", "in", "red"))
        house.enter("ana", ("tag", "ana", "old", False))
        self.lets(house, "ana", ("link", "gus", "in", "red"))
        house.enter("ana", ("drop", "ana"))
        self.refuses(house, "ana", ("tick", 1))

    def test_by_chance(self):
        chance = random.Random(351)
        seen = {}
        for turn in range(25):
            world = by_chance.world(chance, BOOK, NODES, 25)
            house, plain = House(BOOK, world), PlainHouse(BOOK, world)
            rows = ()
            for step in range(50):
                by = chance.choice(("ana", "bob", "cleo", "gus", "ivy", "red"))
                deed = deed_by_chance(chance, house)
                if len(house.state[3]) > 4 and deed[0] == "lend":
                    continue
                if not plain.lets(by, deed):
                    word = "refused"
                    with self.assertRaises(Refused):
                        house.enter(by, deed)
                else:
                    try:
                        plain.do(deed)
                        house.enter(by, deed)
                        rows, word = (*rows, (by, deed)), "done"
                    except BadDeed:
                        word = "bad"
                        with self.assertRaises(BadDeed):
                            house.enter(by, deed)
                self.assertEqual((house.state, house.rows), (plain.state, rows))
                seen[deed[0], word] = seen.get((deed[0], word), 0) + 1
        self.assertTrue(len(seen) >= 26, seen)


class WorldTest(unittest.TestCase):
    def test_the_world_of_these_tests(self):
        self.assertEqual(WORLD, world_of(BOOK, NODES, LINKS, [("cleo", "level", 4), ("memo", "level", 2)]))


if __name__ == "__main__":
    unittest.main()
