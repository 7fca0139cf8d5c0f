"""Ledgers: rows gone through from the beginning, and rows tried [59]."""

import random
import unittest

from leaveledger.errors import BadDeed, BadRow, Refused
from leaveledger.house import House
from leaveledger.ledger import audit, replayed, tried
from tests import chance as by_chance
from tests.test_house import BOOK, NODES, WORLD, deed_by_chance, house_with, lent

ROWS = (
    ("ana", ("link", "bob", "in", "red")), ("ana", ("lend", *lent("l1", "ana", "gus", until=5))), ("gus", ("tick", 4)), ("gus", ("lend", *lent("l2", "gus", "bob"))),
    ("bob", ("drop", "leaf")), ("ana", ("back", "l1")), ("ana", ("tag", "bob", "old", True)), ("cleo", ("tick", 1)),
)
# Rows that cannot be entered: not let, or not to be done.
WRONG = (("gus", ("link", "gus", "in", "red")), ("none", ("tick", 1)), ("red", ("tick", 1)), ("ana", ("tick", 0)), ("bob", ("back", "l1")), ("ana", ("drop", "none")), ("ana", ("none",)),
         ("ana", ("enact", ("asker", ("x",)))))


class LedgerTest(unittest.TestCase):
    def behind(self, now, rows, world=WORLD):
        """The state of a house in which rows were entered."""
        house = House(BOOK, world, now)
        for by, deed in rows:
            house.enter(by, deed)
        self.assertEqual(house.rows, tuple(rows))
        return house.state

    def test_all_rows(self):
        for rows in (ROWS, (), ROWS[:3], list(ROWS)):
            self.assertIsNone(audit(BOOK, WORLD, 0, rows))
            self.assertEqual(replayed(BOOK, WORLD, 0, rows), self.behind(0, rows))
            self.assertEqual(tried(House(BOOK, WORLD), rows), self.behind(0, rows))
        self.assertEqual(replayed(BOOK, WORLD, 7, ()), (BOOK.tree, WORLD, 7, ()))

    def test_the_first_row_that_could_not_be_entered(self):
        for at in range(len(ROWS) + 1):
            for wrong in WRONG:
                rows = (*ROWS[:at], wrong, *WRONG[:2], *ROWS[at:])
                self.assertEqual(audit(BOOK, WORLD, 0, rows), at)
                for call in (lambda: replayed(BOOK, WORLD, 0, rows), lambda: tried(House(BOOK, WORLD), rows)):
                    with self.assertRaises(BadRow) as caught:
                        call()
                    self.assertEqual(caught.exception.number, at)

    def test_rows_depend_on_those_in_front(self):
        self.assertEqual(audit(BOOK, WORLD, 0, ROWS[3:]), 2)
        self.assertEqual(audit(BOOK, WORLD, 0, ROWS + ROWS), 8)
        self.assertEqual(audit(BOOK, WORLD, 0, ROWS[::-1]), 2)
        self.assertIsNone(audit(BOOK, WORLD, 0, (ROWS[2],) * 3))

    def test_the_moment(self):
        self.assertEqual(audit(BOOK, WORLD, 5, ROWS), 1)
        self.assertEqual(audit(BOOK, WORLD, 9997, (("gus", ("tick", 1)),) * 3), 2)
        self.assertEqual(replayed(BOOK, WORLD, 3, ROWS[2:3])[2], 7)

    def test_tried_goes_on_from_the_house(self):
        house = house_with(lent("l7", "gus", "ana"))
        house.enter("ana", ("tick", 2))
        before = (house.state, house.rows, house.now)
        found = tried(house, ROWS)
        self.assertEqual((house.state, house.rows, house.now), before)
        tree, world, now, loans = self.behind(2, ROWS)
        self.assertEqual(found, (tree, world, now, (*loans, lent("l7", "gus", "ana"))))
        with self.assertRaises(BadRow) as caught:
            tried(house, (*ROWS, ("gus", ("back", "l7")), ("gus", ("back", "l7"))))
        self.assertEqual(caught.exception.number, len(ROWS) + 1)
        self.assertEqual((house.state, house.rows, house.now), before)
        self.assertEqual(house.may(("ana", "view", "leaf", (False,), (0,))), ("lent", ("l7",)))
        self.assertEqual(tried(house, ()), house.state)

    def test_tried_within_a_trial(self):
        house = house_with()
        with house.trial() as held:
            held.do(("tick", 3))
            self.assertEqual(tried(held, (("ana", ("tick", 1)),))[2], 4)
            self.assertEqual(house.now, 3)
        self.assertEqual(house.now, 0)

    def test_by_chance(self):
        chance = random.Random(361)
        many = 0
        for turn in range(25):
            world = by_chance.world(chance, BOOK, NODES, 25)
            house = House(BOOK, world, turn)
            rows = []
            for _ in range(25):
                row = (chance.choice(("ana", "bob", "cleo", "gus", "ivy")), deed_by_chance(chance, house))
                try:
                    house.enter(*row)
                    rows.append(row)
                except (Refused, BadDeed):
                    with self.assertRaises(BadRow) as caught:
                        replayed(BOOK, world, turn, (*rows, row, *rows))
                    self.assertEqual(caught.exception.number, len(rows))
                    self.assertEqual(audit(BOOK, world, turn, (*rows, row)), len(rows))
            self.assertIsNone(audit(BOOK, world, turn, tuple(rows)))
            self.assertEqual(replayed(BOOK, world, turn, tuple(rows)), house.state)
            self.assertEqual(house.rows, tuple(rows))
            fresh = House(BOOK, world, turn)
            self.assertEqual(tried(fresh, house.rows), house.state)
            self.assertEqual((fresh.state, fresh.rows), ((BOOK.tree, world, turn, ()), ()))
            many += len(rows)
        self.assertTrue(many > 80, many)


if __name__ == "__main__":
    unittest.main()
