"""Asks without their asker or their thing, as queries to a store [53]."""

import random
import unittest

from leaveledger.answers import answer
from leaveledger.books import Book
from leaveledger.errors import BadAsk
from leaveledger.queries import what, who
from leaveledger.reading import read
from leaveledger.store import Store
from leaveledger.worlds import world_of
from tests import chance as by_chance
from tests.plain import Plain
from tests.plainjudges import kinds_of, numbers_of, tags_of
from tests.samples import EXAMPLE, TOWN
from tests.test_claims import PLAN, book_by_chance
from tests.test_example import WORLD as LITTLE_WORLD
from tests.test_realizing import BOOK, NODES
from tests.test_walked import BOOK as TOWN_BOOK, NODES as TOWN_NODES

LITTLE = Book(read(EXAMPLE))


def is_query(book, world, kind, query, *, within=False):
    """Whether something is a query as [53] tells of those that are returned."""
    if type(query) is not tuple or not query:
        return False
    word, parts = query[0], query[1:]
    if word in ("all", "none"):
        return not parts and not within
    if word == "tag":
        return len(parts) == 1 and parts[0] in tags_of(book, kind)
    if word == "between":
        return len(parts) == 3 and parts[0] in numbers_of(book, kind) and all(type(part) is int for part in parts[1:]) and 0 <= parts[1] <= parts[2] <= 9999
    if word == "gap":
        return len(parts) == 3 and set(parts[:2]) <= set(numbers_of(book, kind)) and type(parts[2]) is int
    if word == "names":
        names = [name for name, other, _ in world[0] if other == kind]
        return len(parts) == 1 and type(parts[0]) is tuple and list(parts[0]) == sorted(set(parts[0])) and set(parts[0]) <= set(names)
    if word in ("and", "or", "not"):
        return len(parts) == (1 if word == "not" else 2) and all(is_query(book, world, kind, part, within=True) for part in parts)
    return False


def with_others(chance, book, world, kind):
    """A world with other tags and numbers of the nodes of a kind."""
    nodes = [(name, other, tuple(tag for tag in tags_of(book, other) if chance.random() < 0.5) if other == kind else tags) for name, other, tags in world[0]]
    kinds = {name: other for name, other, _ in world[0]}
    numbers = [(name, number, chance.choice((0, 1, 2, 3, 5, 9, 9999, chance.randint(0, 12))) if kinds[name] == kind else worth) for name, number, worth in world[2]]
    return world_of(book, nodes, world[1], numbers)


class QueriesTest(unittest.TestCase):
    def check(self, chance, book, world, asker, action, thing, flags, numbers, now):
        """The queries for an ask of which the thing, or the asker, is left out."""
        kinds = {name: kind for name, kind, _ in world[0]}
        plain = Plain(book.tree)
        for kind in kinds_of(book, "thing"):
            query = what(book, world, asker, action, kind, flags, numbers, now)
            self.assertTrue(is_query(book, world, kind, query), query)
            for other in (world, *[with_others(chance, book, world, kind) for _ in range(2)]):
                expected = tuple(name for name in sorted(kinds) if kinds[name] == kind and plain.answer(other, (asker, action, name, flags, numbers, now))[0] == "let")
                self.assertEqual(Store(book, other).sought(kind, query), expected)
                self.assertEqual(Store(book, other).many(kind, query), len(expected))
        for kind in kinds_of(book, "asker"):
            query = who(book, world, thing, action, kind, flags, numbers, now)
            self.assertTrue(is_query(book, world, kind, query), query)
            for other in (world, *[with_others(chance, book, world, kind) for _ in range(2)]):
                expected = tuple(name for name in sorted(kinds) if kinds[name] == kind and plain.answer(other, (name, action, thing, flags, numbers, now))[0] == "let")
                self.assertEqual(Store(book, other).sought(kind, query), expected)

    def test_example(self):
        store = Store(LITTLE, LITTLE_WORLD)
        for flag, askers in ((False, ("ana",)), (True, ("ana", "bob"))):
            self.assertEqual(store.sought("clerk", who(LITTLE, LITTLE_WORLD, "memo", "view", "clerk", (flag,), (), 0)), askers)
            for asker in ("ana", "bob"):
                things = store.sought("paper", what(LITTLE, LITTLE_WORLD, asker, "view", "paper", (flag,), (), 0))
                self.assertEqual(things, ("memo",) if asker in askers else ())

    def test_all_and_none(self):
        self.assertEqual(what(LITTLE, LITTLE_WORLD, "ana", "edit", "paper", (True,), (), 0), ("none",))
        self.assertEqual(who(LITTLE, LITTLE_WORLD, "memo", "view", "guest", (True,), (), 0), ("none",))
        for text, query in (("let p rank 1 clerk may view on paper when always ;", ("all",)), ("bar p rank 1 clerk may view on paper when always ;", ("none",)),
                            ("let p rank 1 clerk may view on paper when now <= 0 + 9 ;", ("all",)), ("let p rank 1 clerk may view on paper when 0 <= 0 - 1 ;", ("none",)),
                            ("let p rank 1 clerk may view on paper when thing.level <= thing.level ;", ("all",))):
            book = Book(read(PLAN + text))
            world = world_of(book, [("ana", "clerk", ()), ("memo", "paper", ())], ())
            self.assertEqual(what(book, world, "ana", "view", "paper", (False, False), (0,), 5), query)
            if "thing" not in text:
                self.assertEqual(who(book, world, "memo", "view", "clerk", (False, False), (0,), 5), query)

    def test_numbers_at_their_bounds(self):
        chance = random.Random(331)
        for left, right, gap in (("thing.level", "now", 0), ("thing.level", "now", -6), ("thing.level", "now", 9999), ("now", "thing.level", 0), ("now", "thing.level", 5),
                                 ("now", "thing.level", 6), ("now", "thing.level", -9999), ("asker.level", "thing.level", 2), ("thing.level", "asker.level", -2), ("0", "thing.level", -9999),
                                 ("0", "thing.level", -9998), ("thing.level", "0", 9998), ("thing.level", "thing.size", 2), ("thing.size", "thing.level", -1), ("ask.sum", "thing.size", -4),
                                 ("thing.level", "thing.level", -1), ("asker.level", "asker.level", 0), ("asker.level", "now", 1)):
            cond = ("atmost", left, right, gap)
            for whole in (cond, ("not", cond)):
                book = Book((*read(TOWN.split("walk sees")[0]), ("let", "p", 1, ("clerk",), ("view",), ("paper",), whole, ())))
                world = world_of(book, [("ana", "clerk", ()), ("cleo", "clerk", ()), ("leaf", "paper", ()), ("sheet", "paper", ()), ("zz3", "paper", ())], (),
                                 [("ana", "level", 3), ("leaf", "level", 5), ("leaf", "size", 4), ("sheet", "level", 9999), ("sheet", "size", 9999)])
                for now in (0, 5, 9999):
                    self.check(chance, book, world, "ana", "view", "leaf", (False, False, True), (2, 8), now)

    def test_ranks_and_effects(self):
        chance = random.Random(332)
        rows = ("let a rank 1 clerk may view on paper when thing is fine ;", "bar b rank 1 clerk may view on paper when thing is old ;",
                "let c rank 3 clerk may view on paper when thing is old and thing.level <= 0 + 4 ;", "bar d rank 5 clerk may view on paper when thing.size <= thing.level ;",
                "let e rank 5 clerk may view on paper when thing is fine and asker is gold ;")
        world = world_of(TOWN_BOOK, [("ana", "clerk", ("gold",)), ("bob", "clerk", ()), *[(f"zz{at}", "paper", ()) for at in range(12)]], ())
        for _ in range(12):
            book = Book(read(TOWN.split("walk sees")[0] + "".join(chance.sample(rows, chance.randint(1, 5)))))
            other = with_others(chance, book, world, "paper")
            self.check(chance, book, other, chance.choice(("ana", "bob")), "view", "zz3", (False, False, True), (2, 8), 4)

    def test_walks(self):
        book = Book(read(EXAMPLE + "let p3 rank 9 clerk may edit on paper when by sees to thing and not by gilt to auditor ;"))
        world = world_of(book, [*LITTLE_WORLD[0], ("zz2", "paper", ()), ("leaf", "paper", ()), ("gus", "guest", ()), ("zz9", "clerk", ())],
                         [*LITTLE_WORLD[1], ("blue", "keeps", "zz2"), ("zz9", "in", "blue"), ("ana", "wears", "auditor")])
        store = Store(book, world)
        self.assertEqual(store.sought("paper", what(book, world, "bob", "view", "paper", (True,), (), 0)), ("memo", "zz2"))
        self.assertEqual(store.sought("paper", what(book, world, "zz9", "view", "paper", (True,), (), 0)), ("memo", "zz2"))
        self.assertEqual(store.sought("clerk", who(book, world, "zz2", "view", "clerk", (True,), (), 0)), ("bob", "zz9"))
        self.assertEqual(store.sought("clerk", who(book, world, "leaf", "view", "clerk", (True,), (), 0)), ())
        self.check(random.Random(333), book, world, "zz9", "edit", "zz2", (False,), (), 0)

    def test_kinds_without_nodes(self):
        world = world_of(BOOK, [("ana", "clerk", ()), ("memo", "paper", ())], ())
        alone = world_of(BOOK, [("ana", "clerk", ())], ())
        self.assertEqual(Store(BOOK, alone).sought("paper", what(BOOK, alone, "ana", "view", "paper", (False, False), (0,), 0)), ())
        self.assertTrue(is_query(BOOK, alone, "paper", what(BOOK, alone, "ana", "view", "paper", (False, False), (0,), 0)))
        self.assertTrue(is_query(BOOK, world, "paper", what(BOOK, world, "ana", "copy", "paper", (False, False), (0,), 9)))

    def test_parts_that_do_not_fit(self):
        right = {"asker": "ana", "thing": "memo", "action": "view", "flags": (False, False), "numbers": (0,), "now": 0}
        world = world_of(BOOK, [("ana", "clerk", ()), ("memo", "paper", ()), ("red", "team", ())], ())
        wrong = {0: ("asker", ("memo", "red", "cleo", None, ["ana"])), 1: ("action", ("edit", None, "sees")), 2: ("thing", ("ana", "red", "boss", None)),
                 3: ("flags", ((False,), (0, False), (None, False), [False, False], None)), 4: ("numbers", ((), (-1,), (True,), (None,), [0], None)), 5: ("now", (-1, 10000, None, False, "0"))}
        for part, (name, values) in wrong.items():
            for value in values:
                told = {**right, name: value}
                later = {**told, **{wrong[at][0]: wrong[at][1][0] for at in wrong if at > part}}
                for parts in (told, later):
                    if part != 2:
                        with self.assertRaises(BadAsk) as caught:
                            what(BOOK, world, parts["asker"], parts["action"], "paper", parts["flags"], parts["numbers"], parts["now"])
                        self.assertEqual(caught.exception.part, part)
                    if part != 0:
                        with self.assertRaises(BadAsk) as caught:
                            who(BOOK, world, parts["thing"], parts["action"], "clerk", parts["flags"], parts["numbers"], parts["now"])
                        self.assertEqual(caught.exception.part, part)

    def test_in_the_town(self):
        chance = random.Random(334)
        for turn in range(40):
            world = by_chance.world(chance, TOWN_BOOK, TOWN_NODES, 80)
            self.check(chance, TOWN_BOOK, world, chance.choice(("ana", "bob")), chance.choice(("view", "copy", "edit")), chance.choice(("sheet", "leaf", "memo")),
                       tuple(chance.random() < 0.5 for _ in range(3)), (chance.randint(0, 5), chance.randint(0, 5)), chance.randint(0, 9))

    def test_by_chance(self):
        chance = random.Random(335)
        seen = {}
        for turn in range(60):
            book = book_by_chance(chance) if turn % 2 else BOOK
            world = by_chance.world(chance, book, (*NODES, ("bob", "clerk", ()), ("zz5", "clerk", ("fine",))), 40)
            ask = ("ana", chance.choice(("view", "copy")), chance.choice(("memo", "zz1")), (chance.random() < 0.5, False), (chance.randint(0, 4),), chance.randint(0, 9))
            self.check(chance, book, world, *ask)
            query = what(book, world, *ask[:2], "paper", *ask[3:])
            seen[query[0]] = seen.get(query[0], 0) + 1
            self.assertEqual(ask[2] in Store(book, world).sought("paper", query), answer(book, world, ask)[0] == "let")
        self.assertTrue({"all", "none"} < set(seen), seen)


if __name__ == "__main__":
    unittest.main()
