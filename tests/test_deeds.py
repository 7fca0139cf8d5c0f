"""Deeds [21], with [17]."""

import copy
import random
import unittest

from leaveledger.books import Book
from leaveledger.deeds import done
from leaveledger.errors import BadDeed
from leaveledger.reading import read
from leaveledger.worlds import is_world, world_of
from tests.samples import TOWN

BOOK = Book(read(TOWN))
NODES = (
    ("ana", "clerk", ("gold",)), ("bob", "guest", ()), ("red", "team", ("gold",)), ("blue", "team", ()),
    ("case", "box", ("old",)), ("pile", "box", ()), ("sheet", "paper", ("fine", "old")), ("note", "memo", ()),
)
LINKS = (
    ("ana", "in", "blue"), ("ana", "in", "red"), ("ana", "keeps", "auditor"), ("ana", "keeps", "sheet"),
    ("blue", "in", "blue"), ("blue", "in", "red"), ("bob", "tops", "pile"), ("pile", "tops", "boss"),
    ("red", "in", "red"), ("red", "keeps", "note"),
)
NUMBERS = (("ana", "level", 3), ("bob", "level", 0), ("sheet", "level", 9999), ("sheet", "size", 1), ("note", "size", 2))
WORLD = world_of(BOOK, NODES, LINKS, NUMBERS)
JUNK = (None, True, False, 0, 1, -99999, 2.5, "", "node", "zz0", (), ("drop",), ("ana",), [], ["ana"], {}, ((),), (None,),
        ("level", 1), (("level", 1),), (("level", 1), None), ([],))
DEEDS = (
    ("node", "new", "clerk", (), ()), ("drop", "ana"), ("tag", "ana", "gold", True), ("number", "ana", "level", 4),
    ("link", "bob", "in", "red"), ("cut", "ana", "in", "red"),
)


class DeedsTest(unittest.TestCase):
    def check(self, deed, nodes=NODES, links=LINKS, numbers=NUMBERS):
        """A deed, and the world that it makes, told as `world_of` takes it."""
        expected = world_of(BOOK, nodes, links, numbers)
        before = copy.deepcopy(WORLD)
        for _ in range(2):
            found = done(BOOK, WORLD, deed)
            self.assertEqual(found, expected, deed)
            self.assertIs(is_world(BOOK, found), True, deed)
            self.assertEqual(WORLD, before)

    def bad(self, *deeds, world=WORLD):
        for deed in deeds:
            before = copy.deepcopy((world, deed))
            with self.assertRaises(BadDeed, msg=deed):
                done(BOOK, world, deed)
            self.assertEqual((world, deed), before)

    def test_node(self):
        self.check(("node", "cid", "guest", (), ()), (*NODES, ("cid", "guest", ())))
        self.check(("node", "cid", "clerk", (), ()), (*NODES, ("cid", "clerk", ())))
        self.check(("node", "aaa", "team", ("old",), ()), (*NODES, ("aaa", "team", ("old",))))
        self.check(("node", "zz0", "box", (), ()), (*NODES, ("zz0", "box", ())))
        self.check(("node", "zz999", "memo", (), (("size", 9999),)), (*NODES, ("zz999", "memo", ())),
                   numbers=(*NUMBERS, ("zz999", "size", 9999)))

    def test_tags_and_numbers_of_a_new_node(self):
        node = ("x", "paper", ("fine", "old"))
        numbers = (("level", 4), ("size", 5))
        for tags in (("fine", "old"), ("old", "fine")):
            for pairs in (numbers, numbers[::-1]):
                self.check(("node", "x", "paper", tags, pairs), (*NODES, node),
                           numbers=(*NUMBERS, ("x", "level", 4), ("x", "size", 5)))
        self.check(("node", "x", "paper", ("old",), (("size", 5),)), (*NODES, ("x", "paper", ("old",))),
                   numbers=(*NUMBERS, ("x", "level", 0), ("x", "size", 5)))
        self.check(("node", "x", "team", ("old", "gold"), ()), (*NODES, ("x", "team", ("gold", "old"))))
        self.bad(("node", "x", "paper", ("old", "old"), ()), ("node", "x", "paper", ("fine", "old", "fine"), ()),
                 ("node", "x", "paper", (), (("size", 5), ("size", 5))),
                 ("node", "x", "paper", (), (("size", 5), ("level", 1), ("size", 6))))

    def test_node_that_cannot_be_put(self):
        for name in ("ana", "red", "sheet", "auditor", "boss", "zz", "zz00", "zz1000", "any", "abcdefghi", "", "A", None, 3,
                     ("x",), ["x"], True):
            self.bad(("node", name, "guest", (), ()))
        for kind in ("auditor", "gold", "nothing", "asker", "", None, 0, ("guest",), ["guest"]):
            self.bad(("node", "x", kind, (), ()))
        for kind, tags in (("guest", ("gold",)), ("clerk", ("old",)), ("team", ("fine",)), ("box", ("gold",)),
                           ("memo", ("old",)), ("paper", ("nothing",)), ("clerk", ["gold"]), ("clerk", None),
                           ("clerk", "gold"), ("clerk", (None,)), ("clerk", (("gold",),)), ("clerk", (["gold"],))):
            self.bad(("node", "x", kind, tags, ()))
        for kind, pairs in (("clerk", (("size", 1),)), ("team", (("level", 1),)), ("memo", (("level", 1),)),
                            ("clerk", (("level", -1),)), ("clerk", (("level", 10000),)), ("clerk", (("level", True),)),
                            ("clerk", (("level", None),)), ("clerk", (("level", "1"),)), ("clerk", [("level", 1)]),
                            ("clerk", (["level", 1],)), ("clerk", (("level",),)), ("clerk", (("level", 1, 1),)),
                            ("clerk", ("level", 1)), ("clerk", None), ("clerk", ((),)), ("clerk", (("x", "level", 1),)),
                            ("clerk", ((["level"], 1),)), ("clerk", (("nothing", 1),)), ("clerk", (None,))):
            self.bad(("node", "x", kind, (), pairs))

    def test_drop(self):
        self.check(("drop", "ana"), NODES[1:], LINKS[4:], NUMBERS[1:])
        self.check(("drop", "red"), NODES[:2] + NODES[3:], [row for row in LINKS if "red" not in row])
        self.check(("drop", "blue"), NODES[:3] + NODES[4:], [row for row in LINKS if "blue" not in row])
        self.check(("drop", "sheet"), NODES[:6] + NODES[7:], LINKS[:3] + LINKS[4:], NUMBERS[:2] + NUMBERS[4:])
        self.check(("drop", "case"), NODES[:4] + NODES[5:])
        self.bad(*[("drop", name) for name in ("none", "auditor", "boss", "zz0", "clerk", "", None, 0, ("ana",), ["ana"])])

    def test_drop_is_about_names_alone(self):
        # The node `in` has the name of a tie, and `team` that of a kind.
        nodes = (("in", "team", ()), ("team", "team", ()), ("ana", "clerk", ()))
        world = world_of(BOOK, nodes, [("ana", "in", "team"), ("ana", "in", "in")])
        self.assertEqual(done(BOOK, world, ("drop", "in")), world_of(BOOK, nodes[1:], [("ana", "in", "team")]))
        self.assertEqual(done(BOOK, world, ("drop", "team")), world_of(BOOK, nodes[::2], [("ana", "in", "in")]))

    def test_tag(self):
        self.check(("tag", "ana", "fine", True), (("ana", "clerk", ("fine", "gold")), *NODES[1:]))
        self.check(("tag", "ana", "gold", False), (("ana", "clerk", ()), *NODES[1:]))
        self.check(("tag", "sheet", "old", False), (*NODES[:6], ("sheet", "paper", ("fine",)), NODES[7]))
        self.check(("tag", "ana", "gold", True))
        self.check(("tag", "ana", "fine", False))
        self.check(("tag", "sheet", "fine", True))
        self.assertEqual(done(BOOK, done(BOOK, WORLD, ("tag", "sheet", "fine", False)), ("tag", "sheet", "fine", True)), WORLD)

    def test_tag_that_cannot_be_given(self):
        for truth in (True, False):
            for name, tag in (("red", "gold"), ("red", "old"), ("blue", "gold"), ("case", "old"), ("pile", "old"),
                              ("red", "nothing"), ("bob", "gold"), ("ana", "old"), ("sheet", "gold"), ("note", "fine"),
                              ("none", "gold"), ("auditor", "gold"), ("ana", "clerk"), ("ana", "level"), ("ana", ""),
                              ("ana", None), (None, "gold"), ("ana", ("gold",)), ("ana", ["gold"]), (["ana"], "gold")):
                self.bad(("tag", name, tag, truth))
        for truth in (0, 1, None, "True", (), (True,), [True]):
            self.bad(("tag", "ana", "gold", truth), ("tag", "ana", "fine", truth), ("tag", "red", "gold", truth))

    def test_number(self):
        self.check(("number", "ana", "level", 9999), numbers=(("ana", "level", 9999), *NUMBERS[1:]))
        self.check(("number", "ana", "level", 0), numbers=NUMBERS[1:])
        self.check(("number", "ana", "level", 3))
        self.check(("number", "sheet", "size", 7), numbers=(*NUMBERS[:3], ("sheet", "size", 7), NUMBERS[4]))
        self.check(("number", "sheet", "level", 7), numbers=(*NUMBERS[:2], ("sheet", "level", 7), *NUMBERS[3:]))
        for worth in (-1, 10000, True, False, None, "3", (3,), [3], 3.0):
            self.bad(("number", "ana", "level", worth))
        for name, number in (("ana", "size"), ("red", "level"), ("note", "level"), ("none", "level"), ("auditor", "level"),
                             ("ana", "nothing"), ("ana", "gold"), ("ana", None), (None, "level"), ("ana", ("level",)),
                             ("ana", ["level"]), (["ana"], "level"), ("ana", "amount")):
            self.bad(("number", name, number, 1))

    def test_link(self):
        for link in (("bob", "in", "red"), ("bob", "in", "case"), ("blue", "in", "pile"), ("ana", "keeps", "note"),
                     ("red", "keeps", "sheet"), ("blue", "keeps", "auditor"), ("pile", "tops", "sheet"),
                     ("bob", "tops", "boss"), ("pile", "tops", "pile"), ("case", "tops", "boss")):
            self.check(("link", *link), links=(*LINKS, link))
        self.bad(*[("link", *link) for link in LINKS])
        for link in (("red", "in", "blue"), ("red", "in", "case"), ("case", "tops", "pile"), ("bob", "keeps", "sheet"),
                     ("ana", "in", "bob"), ("ana", "in", "auditor"), ("ana", "keeps", "boss"), ("ana", "tops", "pile"),
                     ("sheet", "in", "red"), ("none", "in", "red"), ("ana", "in", "none"), ("ana", "none", "red"),
                     ("ana", "any", "red"), ("ana", "in", "team"), ("auditor", "in", "red"), ("ana", "in", None),
                     (None, "in", "red"), ("ana", None, "red"), ("ana", "in", ("red",)), (["ana"], "in", "red"),
                     ("ana", ["in"], "red"), ("ana", "in", ["red"])):
            self.bad(("link", *link))

    def test_cut(self):
        for at, link in enumerate(LINKS):
            self.check(("cut", *link), links=LINKS[:at] + LINKS[at + 1:])
        for link in (("bob", "in", "red"), ("ana", "in", "none"), ("none", "in", "red"), ("ana", "keeps", "red"),
                     ("red", "in", "ana"), ("ana", "none", "red"), (None, None, None), (["ana"], "in", "red"),
                     ("ana", "in", ["red"])):
            self.bad(("cut", *link))

    def test_deeds_of_another_form(self):
        for thing in JUNK:
            self.bad(thing)
        for deed in DEEDS:
            done(BOOK, WORLD, deed)
            self.bad(deed[:-1], (*deed, ()), (*deed, None), deed[1:], list(deed), (deed,), (deed[0],))
            self.bad(*[(word, *deed[1:]) for word in ("nodes", "", "put", "Drop", "lend", None, 0, ("drop",), ["drop"])])
            for at in range(1, len(deed)):
                for wrong in JUNK:
                    if (deed[0], at, wrong) in (("node", 1, "zz0"), ("node", 3, ()), ("node", 4, ()), ("node", 4, (("level", 1),)),
                                                ("tag", 3, True), ("tag", 3, False), ("number", 3, 0), ("number", 3, 1)):
                        if (isinstance(wrong, bool)) == (deed[0] == "tag"):
                            continue
                    self.bad((*deed[:at], wrong, *deed[at + 1:]))

    def test_words_of_other_deeds(self):
        for deed in DEEDS:
            for word in ("node", "drop", "tag", "number", "cut"):
                if word != deed[0]:
                    self.bad((word, *deed[1:]))

    def test_sixty_nodes(self):
        nodes = [(f"zz{at}", "guest", ()) for at in range(59)]
        world = world_of(BOOK, nodes, ())
        full = done(BOOK, world, ("node", "last", "clerk", (), ()))
        self.assertEqual(full, world_of(BOOK, [*nodes, ("last", "clerk", ())], ()))
        self.bad(("node", "more", "guest", (), ()), world=full)
        self.assertEqual(len(done(BOOK, done(BOOK, full, ("drop", "zz7")), ("node", "more", "team", (), ()))[0]), 60)

    def test_four_hundred_links(self):
        nodes = [(f"zz{at}", "team", ()) for at in range(21)]
        links = [(start[0], "in", end[0]) for start in nodes for end in nodes]
        world = world_of(BOOK, nodes, links[:399])
        full = done(BOOK, world, ("link", *links[399]))
        self.assertEqual(full, world_of(BOOK, nodes, links[:400]))
        self.bad(("link", *links[400]), ("link", *links[0]), world=full)
        less = done(BOOK, full, ("cut", *links[0]))
        self.assertEqual(done(BOOK, less, ("link", *links[400])), world_of(BOOK, nodes, links[1:401]))
        self.assertEqual(len(done(BOOK, full, ("node", "more", "team", (), ()))[1]), 400)

    def test_empty_world(self):
        empty = ((), (), ())
        self.bad(("drop", "ana"), ("cut", "ana", "in", "red"), ("link", "ana", "in", "red"), ("tag", "ana", "gold", True),
                 ("number", "ana", "level", 1), world=empty)
        world = done(BOOK, empty, ("node", "ana", "clerk", (), ()))
        self.assertEqual(world, ((("ana", "clerk", ()),), (), (("ana", "level", 0),)))
        self.assertEqual(done(BOOK, world, ("drop", "ana")), empty)

    def test_many_deeds(self):
        chance = random.Random(21)
        world = WORLD
        names = [node[0] for node in NODES] + ["cid", "zz0", "zz1", "auditor", "boss"]
        many = 0
        for _ in range(1500):
            deed = chance.choice((
                ("node", chance.choice(names), chance.choice(("clerk", "team", "box", "paper")), chance.choice(((), ("old",))), ()),
                ("drop", chance.choice(names)) if chance.random() < 0.2 else ("drop", "none"),
                ("tag", chance.choice(names), chance.choice(("gold", "fine", "old")), chance.random() < 0.5),
                ("number", chance.choice(names), chance.choice(("level", "size")), chance.randint(0, 9)),
                ("link", chance.choice(names), chance.choice(("in", "keeps", "tops")), chance.choice(names)),
                ("cut", *(chance.choice(world[1]) if world[1] else ("a", "b", "c"))) if chance.random() < 0.4 else ("cut",),
            ))
            try:
                changed = done(BOOK, world, deed)
            except BadDeed:
                continue
            self.assertIs(is_world(BOOK, changed), True, (world, deed))
            many += changed != world
            world = changed
        self.assertTrue(many > 100, many)


if __name__ == "__main__":
    unittest.main()
