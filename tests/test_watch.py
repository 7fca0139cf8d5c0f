"""Where walks lead and what effects asks have, kept while a world changes [51], with [21]."""

import random
import unittest

from leaveledger.books import Book
from leaveledger.deeds import done
from leaveledger.errors import BadAsk, BadDeed, NoName
from leaveledger.reading import read
from leaveledger.watch import Watch
from leaveledger.worlds import world_of
from tests import chance as by_chance
from tests.plain import Plain
from tests.samples import EXAMPLE
from tests.test_example import WORLD as LITTLE_WORLD
from tests.test_realizing import BOOK, NODES

LITTLE = Book(read(EXAMPLE))
PLAIN = Plain(BOOK.tree)
WALKS = [line[1] for line in BOOK.tree if line[0] == "walk"]
ANA, BOB = ("ana", "view", "memo", (False,), (), 0), ("bob", "view", "memo", (False,), (), 0)
EDIT = ("bob", "edit", "memo", (True,), (), 7)


def plain_ends(world, asker, name):
    groups = {node[0] for node in world[0] if node[1] in ("team", "box")}
    walk = PLAIN.walks[name]
    return tuple(end for end in PLAIN.walked(world, walk, asker) if end not in groups and end != asker)


def effect_of(world, ask):
    kinds = {name: kind for name, kind, _ in world[0]}
    if kinds.get(ask[0]) != "clerk" or kinds.get(ask[2]) != "paper":
        return "gone"
    return PLAIN.answer(world, ask)[0]


class WatchTest(unittest.TestCase):
    def watch(self, *askers, asks=()):
        watch = Watch(LITTLE, LITTLE_WORLD)
        for asker in askers:
            self.assertIsNone(watch.follow(asker))
        for ask in asks:
            self.assertIsNone(watch.note(ask))
        return watch

    def test_new(self):
        watch = self.watch()
        self.assertEqual((watch.world, watch.asks, watch.askers), (LITTLE_WORLD, (), ()))
        self.assertEqual(watch.change(("cut", "ana", "in", "red")), ((), (), ()))
        self.assertEqual(watch.tried(()), ())

    def test_ends(self):
        watch = self.watch("bob", "ana")
        self.assertEqual(watch.askers, ("ana", "bob"))
        self.assertEqual([watch.ends("ana", name) for name in ("sees", "gilt")], [("memo",), ("memo",)])
        self.assertEqual([watch.ends("bob", name) for name in ("sees", "gilt")], [("memo",), ()])

    def test_only_things_and_badges_are_ends(self):
        book = Book(read(EXAMPLE.split("let p1")[0] + """walk far = any* ; walk chart = table 0 wears auditor [] 1 | 0 in team [] 1 final 1 ; walk none = table final - ;
            walk odd = in keeps keeps | wears wears | in wears keeps ; walk bad = table 0 wears auditor [] 1 | 0 in team [] 2 | 2 keeps paper [] 3 final 2 ;"""))
        world = world_of(book, LITTLE_WORLD[0], [*LITTLE_WORLD[1], ("bob", "wears", "auditor"), ("red", "wears", "auditor")])
        watch = Watch(book, world)
        watch.follow("bob")
        self.assertEqual([watch.ends("bob", name) for name in ("far", "chart", "none", "sees", "odd", "bad")], [("auditor", "memo"), ("auditor",), (), ("memo",), (), ()])
        self.assertEqual(watch.change(("link", "bob", "in", "red")), ((("bob", "gilt", "memo"),), (), ()))

    def test_ends_that_come_and_go(self):
        watch = self.watch("ana", "bob")
        self.assertEqual(watch.change(("link", "bob", "in", "red")), ((("bob", "gilt", "memo"),), (), ()))
        self.assertEqual(watch.change(("cut", "red", "keeps", "memo")), ((), (("ana", "gilt", "memo"), ("ana", "sees", "memo"), ("bob", "gilt", "memo")), ()))
        self.assertEqual(watch.change(("node", "leaf", "paper", (), ())), ((), (), ()))
        self.assertEqual(watch.change(("link", "red", "keeps", "leaf")), (tuple((name, walk, "leaf") for name in ("ana", "bob") for walk in ("gilt", "sees")), (), ()))
        self.assertEqual(watch.ends("bob", "sees"), ("leaf", "memo"))
        self.assertEqual(watch.change(("drop", "memo")), ((), (("bob", "sees", "memo"),), ()))
        self.assertEqual(watch.ends("bob", "sees"), ("leaf",))

    def test_a_ring_of_groups(self):
        watch = self.watch("ana", "bob")
        self.assertEqual(watch.change(("link", "blue", "in", "red")), ((("bob", "gilt", "memo"),), (), ()))
        self.assertEqual(watch.change(("link", "red", "in", "blue")), ((), (), ()))
        self.assertEqual(watch.change(("cut", "red", "keeps", "memo")), ((), (), ()))
        self.assertEqual(watch.change(("cut", "blue", "in", "red")), ((), (("bob", "gilt", "memo"),), ()))
        self.assertEqual(watch.change(("cut", "red", "in", "blue")), ((), (("ana", "gilt", "memo"), ("ana", "sees", "memo")), ()))

    def test_tags_and_numbers_move_no_ends(self):
        world = world_of(BOOK, [("ana", "clerk", ()), ("memo", "paper", ()), ("pile", "box", ())], [("ana", "in", "pile"), ("pile", "keeps", "memo")])
        watch = Watch(BOOK, world)
        ask = ("ana", "view", "memo", (False, False), (0,), 0)
        watch.follow("ana")
        watch.note(ask)
        self.assertEqual(watch.change(("tag", "ana", "old", True)), ((), (), ((ask, "let", "none"),)))
        self.assertEqual(watch.change(("number", "ana", "level", 3)), ((), (), ()))
        self.assertEqual(watch.change(("tag", "ana", "old", False)), ((), (), ((ask, "none", "let"),)))
        self.assertEqual(watch.change(("link", "pile", "keeps", "boss")), (tuple(("ana", name, "boss") for name in ("all", "deep", "near")), (), ()))
        self.assertEqual(watch.change(("number", "memo", "level", 9)), ((), (), ()))

    def test_following_again(self):
        watch = self.watch("ana", "ana")
        watch.change(("cut", "ana", "in", "red"))
        watch.follow("ana")
        self.assertEqual((watch.askers, watch.ends("ana", "sees")), (("ana",), ()))
        self.assertEqual(watch.change(("link", "ana", "in", "red"))[0], (("ana", "gilt", "memo"), ("ana", "sees", "memo")))

    def test_noting(self):
        watch = self.watch(asks=(EDIT, BOB, ANA, BOB))
        self.assertEqual((watch.asks, watch.askers), ((ANA, EDIT, BOB), ()))
        self.assertEqual(watch.change(("link", "bob", "in", "red")), ((), (), ((BOB, "bar", "let"),)))
        watch.note(BOB)
        self.assertEqual(watch.change(("cut", "red", "keeps", "memo")), ((), (), ((ANA, "let", "bar"), (BOB, "let", "bar"))))
        self.assertEqual(watch.change(("cut", "blue", "keeps", "memo")), ((), (), ()))
        self.assertEqual(watch.asks, (ANA, EDIT, BOB))

    def test_dropped_askers(self):
        watch = self.watch("ana", "bob", asks=(ANA, BOB, EDIT))
        self.assertEqual(watch.change(("drop", "bob")), ((), (("bob", "sees", "memo"),), ((EDIT, "none", "gone"), (BOB, "bar", "gone"))))
        self.assertEqual((watch.askers, watch.asks), (("ana",), (ANA,)))
        with self.assertRaises(NoName):
            watch.ends("bob", "sees")
        self.assertEqual(watch.change(("node", "bob", "clerk", (), ())), ((), (), ()))
        with self.assertRaises(NoName):
            watch.ends("bob", "sees")
        self.assertEqual(watch.change(("link", "bob", "in", "red")), ((), (), ()))
        watch.follow("bob")
        watch.note(BOB)
        self.assertEqual((watch.askers, watch.asks, watch.ends("bob", "gilt")), (("ana", "bob"), (ANA, BOB), ("memo",)))

    def test_dropped_things_and_groups(self):
        watch = self.watch("ana", asks=(ANA, BOB))
        self.assertEqual(watch.change(("drop", "red")), ((), (("ana", "gilt", "memo"), ("ana", "sees", "memo")), ((ANA, "let", "bar"),)))
        self.assertEqual(watch.change(("drop", "memo")), ((), (), ((ANA, "bar", "gone"), (BOB, "bar", "gone"))))
        self.assertEqual((watch.asks, watch.askers), ((), ("ana",)))

    def test_errors(self):
        watch = self.watch("ana", asks=(ANA,))
        for asker in ("red", "memo", "cleo", "auditor", "clerk", "zz0"):
            with self.assertRaises(NoName) as caught:
                watch.follow(asker)
            self.assertEqual(caught.exception.name, asker)
        for asker, name, wrong in (("bob", "none", "bob"), ("bob", "sees", "bob"), ("none", "none", "none"), ("ana", "none", "none"), ("ana", "p1", "p1"), ("ana", "in", "in")):
            with self.assertRaises(NoName) as caught:
                watch.ends(asker, name)
            self.assertEqual(caught.exception.name, wrong)
        for at, part in ((0, "red"), (1, "none"), (2, "bob"), (3, (0,)), (3, (None,)), (4, (0,)), (5, False)):
            with self.assertRaises(BadAsk) as caught:
                watch.note((*ANA[:at], part, *ANA[at + 1:]))
            self.assertEqual(caught.exception.part, at)
        self.assertEqual((watch.askers, watch.asks), (("ana",), (ANA,)))

    def test_deeds_that_cannot_be_done(self):
        watch = self.watch("ana", asks=(ANA, BOB))
        for deed in (("cut", "bob", "in", "red"), ("link", "ana", "in", "red"), ("drop", "cleo"), ("node", "ana", "clerk", (), ()), ("tag", "red", "gold", True),
                     ("number", "ana", "level", 1), ("enact", ()), ("tick", 1), None, (), ["drop", "ana"]):
            with self.assertRaises(BadDeed):
                watch.change(deed)
            with self.assertRaises(BadDeed):
                watch.tried((("cut", "bob", "in", "blue"), deed))
            self.assertEqual((watch.world, watch.askers, watch.asks, watch.ends("ana", "sees")), (LITTLE_WORLD, ("ana",), (ANA, BOB), ("memo",)))
        self.assertEqual(watch.change(("cut", "ana", "in", "red"))[2], ((ANA, "let", "bar"),))

    def test_tried(self):
        watch = self.watch("ana", asks=(ANA, BOB, EDIT))
        cut, link = ("cut", "ana", "in", "red"), ("link", "ana", "in", "red")
        for deeds, turned in (((), ()), ((cut,), ((ANA, "let", "bar"),)), ((cut, link), ()), ((cut, ("link", "bob", "in", "red")), ((ANA, "let", "bar"), (BOB, "bar", "let"))),
                              ((("drop", "ana"),), ((ANA, "let", "gone"),)), ((("drop", "memo"),), ((ANA, "let", "gone"), (EDIT, "none", "gone"), (BOB, "bar", "gone"))),
                              ((("drop", "ana"), ("node", "ana", "clerk", (), ())), ((ANA, "let", "bar"),)),
                              ((("drop", "ana"), ("node", "ana", "guest", (), ())), ((ANA, "let", "none"),)),
                              ((("drop", "ana"), ("node", "ana", "team", (), ())), ((ANA, "let", "gone"),)),
                              ((("drop", "bob"), ("node", "bob", "paper", (), ()), cut), ((ANA, "let", "bar"), (EDIT, "none", "gone"), (BOB, "bar", "gone")))):
            self.assertEqual(watch.tried(deeds), turned)
            self.assertEqual(watch.tried(list(deeds)), turned)
            self.assertEqual((watch.world, watch.asks, watch.ends("ana", "gilt")), (LITTLE_WORLD, (ANA, EDIT, BOB), ("memo",)))

    def test_each_kind_of_deed_by_chance(self):
        chance = random.Random(311)
        seen = {}
        for turn in range(25):
            world = by_chance.world(chance, BOOK, NODES, 25)
            watch = Watch(BOOK, world)
            for step in range(50):
                self.put(chance, watch, world)
                deed = by_chance.deed(chance, BOOK, world)
                try:
                    after = done(BOOK, world, deed)
                except BadDeed:
                    with self.assertRaises(BadDeed):
                        watch.change(deed)
                    continue
                self.check_change(watch, world, deed, after)
                world = after
                seen[deed[0]] = seen.get(deed[0], 0) + 1
        self.assertTrue(len(seen) == 6 and min(seen.values()) > 20, seen)

    def put(self, chance, watch, world):
        """Follow an asker and note an ask, now and then."""
        clerks, papers = [[name for name, kind, _ in world[0] if kind == sought] for sought in ("clerk", "paper")]
        if clerks and chance.random() < 0.2:
            watch.follow(chance.choice(clerks))
        if clerks and papers and chance.random() < 0.4:
            watch.note((chance.choice(clerks), chance.choice(("view", "copy")), chance.choice(papers), (chance.random() < 0.5, False), (chance.randint(0, 4),), 5))

    def check_change(self, watch, world, deed, after):
        asks, askers = watch.asks, watch.askers
        before = {(asker, name, end) for asker in askers for name in WALKS for end in watch.ends(asker, name)}
        self.assertEqual(before, {(asker, name, end) for asker in askers for name in WALKS for end in plain_ends(world, asker, name)})
        still = [asker for asker in askers if asker in [node[0] for node in after[0]]]
        now = {(asker, name, end) for asker in still for name in WALKS for end in plain_ends(after, asker, name)}
        turned = tuple((ask, effect_of(world, ask), effect_of(after, ask)) for ask in asks if effect_of(world, ask) != effect_of(after, ask))
        self.assertEqual(watch.tried((deed,)), turned)
        self.assertEqual(watch.change(deed), (tuple(sorted(now - before)), tuple(sorted(before - now)), turned))
        self.assertEqual((watch.world, watch.askers), (after, tuple(still)))
        self.assertEqual(watch.asks, tuple(ask for ask in asks if effect_of(after, ask) != "gone"))
        for asker in still:
            for name in WALKS:
                self.assertEqual(watch.ends(asker, name), plain_ends(after, asker, name))

    def test_tried_by_chance(self):
        chance = random.Random(312)
        for turn in range(40):
            world = by_chance.world(chance, BOOK, NODES, 25)
            watch = Watch(BOOK, world)
            for _ in range(6):
                self.put(chance, watch, world)
            deeds, after = [], world
            for _ in range(chance.randint(0, 8)):
                deed = by_chance.deed(chance, BOOK, after)
                try:
                    after = done(BOOK, after, deed)
                    deeds.append(deed)
                except BadDeed:
                    with self.assertRaises(BadDeed):
                        watch.tried((*deeds, deed))
            expected = tuple((ask, effect_of(world, ask), effect_of(after, ask)) for ask in watch.asks if effect_of(world, ask) != effect_of(after, ask))
            self.assertEqual(watch.tried(tuple(deeds)), expected)
            self.assertEqual(watch.world, world)

    def test_watches_do_not_share(self):
        first, second = self.watch("ana", asks=(ANA,)), self.watch("bob", asks=(BOB,))
        first.change(("drop", "bob"))
        self.assertEqual((second.world, second.askers, second.asks, second.ends("bob", "sees")), (LITTLE_WORLD, ("bob",), (BOB,), ("memo",)))


if __name__ == "__main__":
    unittest.main()
