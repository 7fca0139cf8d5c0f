"""Queries about nodes by their kinds [52]."""

import random
import unittest

from leaveledger.books import Book
from leaveledger.reading import read
from leaveledger.store import Store
from leaveledger.worlds import world_of
from tests.samples import TOWN

BOOK = Book(read(TOWN))
NODES = [("ana", "clerk", ("fine", "gold")), ("bob", "clerk", ("gold",)), ("zz4", "clerk", ()), ("gus", "guest", ()), ("red", "team", ("gold",)), ("blue", "team", ()),
         ("leaf", "paper", ("old",)), ("sheet", "paper", ("fine", "old")), ("zz10", "paper", ())]
NUMBERS = [("ana", "level", 3), ("bob", "level", 9999), ("leaf", "level", 5), ("leaf", "size", 2), ("sheet", "level", 0), ("sheet", "size", 7), ("zz10", "size", 5)]
WORLD = world_of(BOOK, NODES, [("ana", "in", "red"), ("red", "keeps", "leaf")], NUMBERS)
STORE = Store(BOOK, WORLD)
CLERKS, PAPERS = ("ana", "bob", "zz4"), ("leaf", "sheet", "zz10")


def query_by_chance(chance, deep):
    """A query about papers."""
    if deep == 1 or chance.random() < 0.2:
        low, high = sorted((chance.randint(0, 9), chance.randint(0, 9)))
        return chance.choice((("all",), ("none",), ("tag", chance.choice(("old", "fine"))), ("between", chance.choice(("level", "size")), low, high),
                              ("gap", *chance.choice((("level", "size"), ("size", "level"))), chance.randint(-6, 6)),
                              ("names", tuple(sorted(chance.sample(("ana", "leaf", "none", "sheet", "zz10", "zz7"), chance.randint(0, 4)))))))
    word = chance.choice(("and", "or", "not"))
    return (word, *[query_by_chance(chance, deep - 1) for _ in range(1 if word == "not" else 2)])


def is_true(query, name):
    """The meaning of a query, told once more."""
    tags = {node[0]: node[2] for node in WORLD[0]}[name]
    worths = {row[1]: row[2] for row in WORLD[2] if row[0] == name}
    meanings = {
        "all": lambda: True, "none": lambda: False, "tag": lambda tag: tag in tags, "between": lambda number, low, high: low <= worths[number] and worths[number] <= high,
        "gap": lambda first, second, gap: worths[first] - worths[second] <= gap, "names": lambda names: name in names,
        "and": lambda *parts: all([is_true(part, name) for part in parts]), "or": lambda *parts: any([is_true(part, name) for part in parts]),
        "not": lambda part: not is_true(part, name),
    }
    return meanings[query[0]](*query[1:])


class StoreTest(unittest.TestCase):
    def check(self, kind, query, *names):
        self.assertEqual(STORE.sought(kind, query), names, query)
        self.assertEqual(STORE.many(kind, query), len(names))
        self.assertEqual(STORE.sought(kind, ("not", query)), tuple(name for name in STORE.sought(kind, ("all",)) if name not in names))

    def test_all_and_none(self):
        self.check("clerk", ("all",), *CLERKS)
        self.check("paper", ("all",), *PAPERS)
        self.check("team", ("all",), "blue", "red")
        self.check("clerk", ("none",))

    def test_tags(self):
        self.check("clerk", ("tag", "gold"), "ana", "bob")
        self.check("clerk", ("tag", "fine"), "ana")
        self.check("paper", ("tag", "old"), "leaf", "sheet")
        self.check("team", ("tag", "gold"), "red")

    def test_between(self):
        self.check("clerk", ("between", "level", 0, 9999), *CLERKS)
        self.check("clerk", ("between", "level", 3, 3), "ana")
        self.check("clerk", ("between", "level", 4, 9998))
        self.check("clerk", ("between", "level", 0, 2), "zz4")
        self.check("clerk", ("between", "level", 3, 9999), "ana", "bob")
        self.check("paper", ("between", "size", 2, 5), "leaf", "zz10")

    def test_gap(self):
        self.check("paper", ("gap", "level", "size", 0), "sheet", "zz10")
        self.check("paper", ("gap", "level", "size", 2), "sheet", "zz10")
        self.check("paper", ("gap", "level", "size", 3), *PAPERS)
        self.check("paper", ("gap", "level", "size", -6), "sheet")
        self.check("paper", ("gap", "size", "level", -3), "leaf")
        self.check("paper", ("gap", "level", "level", 0), *PAPERS)
        self.check("paper", ("gap", "level", "level", -1))

    def test_names(self):
        self.check("paper", ("names", ("leaf", "zz10")), "leaf", "zz10")
        self.check("paper", ("names", ("ana", "none", "sheet", "zz9")), "sheet")
        self.check("paper", ("names", ()))
        self.check("clerk", ("names", ("zz4",)), "zz4")
        self.check("clerk", ("names", ("leaf", "red")))

    def test_joined(self):
        old, fine = ("tag", "old"), ("tag", "fine")
        self.check("paper", ("and", old, ("not", fine)), "leaf")
        self.check("paper", ("or", ("not", old), fine), "sheet", "zz10")
        self.check("paper", ("and", ("or", old, ("between", "size", 5, 5)), ("not", ("names", ("leaf",)))), "sheet", "zz10")
        self.check("paper", ("or", ("none",), ("and", ("all",), fine)), "sheet")
        self.check("paper", ("not", ("not", ("not", fine))), "leaf", "zz10")

    def test_kinds_without_nodes(self):
        for kind in ("memo", "box"):
            for query in (("all",), ("none",), ("names", ("leaf",)), ("not", ("names", ()))):
                self.check(kind, query)
        self.assertEqual(Store(BOOK, ((), (), ())).sought("clerk", ("all",)), ())

    def test_the_store_keeps_its_world(self):
        store = Store(BOOK, WORLD)
        other = Store(BOOK, world_of(BOOK, NODES[:1], ()))
        self.assertEqual((store.many("clerk", ("all",)), other.many("clerk", ("all",))), (3, 1))
        self.assertEqual(other.sought("clerk", ("between", "level", 0, 0)), ("ana",))

    def test_by_chance(self):
        chance = random.Random(321)
        for _ in range(300):
            query = query_by_chance(chance, 5)
            self.check("paper", query, *[name for name in PAPERS if is_true(query, name)])


if __name__ == "__main__":
    unittest.main()
