"""Worlds, and rows of their nodes [17], [18]."""

import random
import unittest

from leaveledger.books import Book
from leaveledger.errors import BadWorld, TooMany
from leaveledger.reading import read
from leaveledger.worlds import is_world, row_of, world_of

BOOK = Book(read("""\
asker clerk guest ;
group team box ;
thing paper memo ;
badge auditor boss ;
tag gold on team clerk ;
tag old on team box ;
tag fine on clerk paper ;
number level on clerk paper ;
number size on paper ;
tie in from clerk guest team to team box ;
tie keeps from clerk team to paper memo auditor ;
tie tops from box to boss box ;
never in [gold] to [-gold] ;
never tops [] to [old] ;
action look ;
let p rank 1 clerk may look on paper when always ;
"""))

ANA = ("ana", "clerk", ("fine", "gold"))
BOB = ("bob", "guest", ())
RED = ("red", "team", ("gold", "old"))
BLUE = ("blue", "team", ())
CASE = ("case", "box", ("old",))
PILE = ("pile", "box", ())
PAPER = ("sheet", "paper", ("fine",))
MEMO = ("note", "memo", ())
NODES = (ANA, BLUE, BOB, CASE, MEMO, PILE, RED, PAPER)
LINKS = (
    ("ana", "in", "blue"), ("ana", "in", "case"), ("ana", "in", "red"), ("ana", "keeps", "auditor"),
    ("ana", "keeps", "note"), ("ana", "keeps", "sheet"), ("blue", "in", "blue"), ("blue", "in", "case"),
    ("blue", "in", "red"), ("blue", "keeps", "auditor"), ("bob", "in", "red"), ("case", "tops", "boss"),
    ("case", "tops", "pile"), ("pile", "tops", "pile"), ("red", "in", "red"), ("red", "keeps", "sheet"),
)
NUMBERS = (("ana", "level", 3), ("sheet", "level", 9999), ("sheet", "size", 0))
WORLD = (NODES, LINKS, NUMBERS)
JUNK = (None, True, False, 0, 1, -99999, "", "ana", (), [], ("ana",), ("ana", "clerk"), ((), (), ()), (1, 2, 3), {},
        (("ana",), "clerk", ()), ("ana", ("clerk",), ()), ("ana", "clerk", (), ()), (None, None, None),
        (["ana"], "clerk", ()), ("ana", ["clerk"], ()), ("ana", "clerk", [[]]), ("ana", "clerk", ([],)))


def clerks(many):
    """So many clerks, in ascending order of their names."""
    return tuple((f"zz{at}", "clerk", ()) for at in sorted(range(many), key=str))


class WorldOfTest(unittest.TestCase):
    def bad(self, part, nodes, links=(), numbers=()):
        with self.assertRaises(BadWorld) as caught:
            world_of(BOOK, nodes, links, numbers)
        self.assertEqual(caught.exception.part, part)

    def test_world(self):
        self.assertEqual(world_of(BOOK, NODES, LINKS, NUMBERS), WORLD)
        self.assertEqual(world_of(BOOK, list(NODES), list(LINKS), list(NUMBERS)), WORLD)
        self.assertEqual(world_of(BOOK, (), (), ()), ((), (), ()))
        self.assertEqual(world_of(BOOK, [], []), ((), (), ()))
        self.assertEqual(world_of(BOOK, (), (), numbers=()), ((), (), ()))

    def test_any_order(self):
        chance = random.Random(3)
        for _ in range(20):
            nodes = [(name, kind, tuple(chance.sample(tags, len(tags)))) for name, kind, tags in NODES]
            links, numbers = list(LINKS), list(NUMBERS)
            for row in (nodes, links, numbers):
                chance.shuffle(row)
            before = (list(nodes), list(links), list(numbers))
            self.assertEqual(world_of(BOOK, nodes, links, numbers), WORLD)
            self.assertEqual((nodes, links, numbers), before)
        self.assertEqual(world_of(BOOK, [("red", "team", ("old", "gold"))], [])[0], (RED,))

    def test_numbers_left_out(self):
        zeros = (("ana", "level", 0), ("sheet", "level", 0), ("sheet", "size", 0))
        self.assertEqual(world_of(BOOK, NODES, LINKS), (NODES, LINKS, zeros))
        self.assertEqual(world_of(BOOK, NODES, LINKS, [("sheet", "level", 9999), ("ana", "level", 3)]), WORLD)
        self.assertEqual(world_of(BOOK, (MEMO, BOB, BLUE), ())[2], ())

    def test_names_of_nodes(self):
        for name in ("a", "abcdefgh", "zz0", "zz999", "clerk", "team", "in", "gold", "look", "level", "p", "az"):
            node = (name, "guest", ())
            self.assertEqual(world_of(BOOK, [node], []), ((node,), (), ()))
        for name in ("", "abcdefghi", "zz", "zz00", "zz1000", "zza", "thing", "any", "0a", "A", "auditor", "boss", None, 1,
                     True, ("a",), ["a"]):
            self.bad((name, "guest", ()), [BLUE, (name, "guest", ()), BLUE])

    def test_kinds_of_nodes(self):
        for kind in ("auditor", "gold", "in", "level", "look", "p", "nothing", "asker", "", None, 0, ("clerk",), ["clerk"]):
            self.bad(("x", kind, ()), [("x", kind, ())])

    def test_tags_of_nodes(self):
        for kind, tags in (("clerk", ("gold", "fine")), ("guest", ()), ("team", ("old", "gold")), ("box", ("old",)),
                           ("paper", ("fine",)), ("memo", ())):
            self.assertEqual(world_of(BOOK, [("x", kind, tags)], [])[0], (("x", kind, tuple(sorted(tags))),))
            for tag in ("gold", "old", "fine", "clerk", "level", "nothing", 1, None, ("gold",)):
                if tag not in tags:
                    self.bad(("x", kind, (*tags, tag)), [("x", kind, (*tags, tag))])
            for tag in tags:
                self.bad(("x", kind, (*tags, tag)), [("x", kind, (*tags, tag))])
            for wrong in (list(tags), None, "gold", True, 0):
                self.bad(("x", kind, wrong), [("x", kind, wrong)])

    def test_name_twice(self):
        self.bad(ANA, [ANA, BLUE, ANA])
        self.bad(("ana", "team", ()), [ANA, ("ana", "team", ())])
        self.bad(("ana", "clerk", ()), [ANA, ("ana", "clerk", ()), ANA])

    def test_links(self):
        for link in LINKS:
            self.assertEqual(world_of(BOOK, NODES, [link])[1], (link,))
        for link in (
            ("none", "in", "red"), ("ana", "in", "none"), ("ana", "none", "red"), ("auditor", "in", "red"),
            ("ana", "in", "auditor"), ("ana", "in", "bob"), ("ana", "in", "ana"), ("ana", "in", "sheet"),
            ("ana", "keeps", "red"), ("ana", "keeps", "boss"), ("bob", "keeps", "sheet"), ("ana", "tops", "boss"),
            ("red", "in", "ana"), ("sheet", "in", "red"), ("sheet", "keeps", "sheet"), ("note", "keeps", "auditor"),
            ("ana", "in", "team"), ("clerk", "in", "red"), ("ana", "any", "red"), ("ana", "gold", "red"),
            ("ana", "in", ""), ("", "in", "red"), ("ana", "in", None), (None, "in", "red"), ("ana", None, "red"),
            ("ana", "in", ("red",)), (("ana",), "in", "red"), ("ana", ("in",), "red"), ("ana", "in", True),
            (["ana"], "in", "red"), ("ana", ["in"], "red"), ("ana", "in", ["red"]),
        ):
            self.bad(link, NODES, [LINKS[0], link, LINKS[0]])

    def test_links_that_are_never(self):
        for link in (("red", "in", "blue"), ("red", "in", "case"), ("red", "in", "pile"), ("case", "tops", "case"),
                     ("pile", "tops", "case")):
            self.bad(link, NODES, [link])
        # What is never for groups is not for askers, though Ana has the tag.
        self.assertEqual(len(world_of(BOOK, NODES, [("ana", "in", "blue")])[1]), 1)
        book = Book(read("asker a; group g; thing p; tag t on g; tie i from a g to g p; never i [] to [];"))
        nodes = [("x", "a", ()), ("y", "g", ("t",)), ("z", "p", ())]
        self.assertEqual(len(world_of(book, nodes, [("x", "i", "y"), ("x", "i", "z"), ("y", "i", "z")])[1]), 3)
        with self.assertRaises(BadWorld):
            world_of(book, nodes, [("y", "i", "y")])

    def test_link_twice(self):
        self.bad(LINKS[0], NODES, [LINKS[0], LINKS[1], LINKS[0]])
        self.bad(LINKS[1], NODES, [LINKS[0], LINKS[1], LINKS[1], LINKS[0]])

    def test_numbers(self):
        for worth in (0, 1, 9999):
            self.assertIn(("ana", "level", worth), world_of(BOOK, NODES, (), [("ana", "level", worth)])[2])
        for row in (
            ("ana", "level", -1), ("ana", "level", 10000), ("ana", "level", True), ("ana", "level", False),
            ("ana", "level", None), ("ana", "level", "3"), ("ana", "level", (3,)), ("ana", "size", 1), ("bob", "level", 1),
            ("red", "level", 1), ("note", "level", 1), ("none", "level", 1), ("ana", "none", 1), ("ana", "gold", 1),
            ("auditor", "level", 1), (None, "level", 1), ("ana", None, 1), (("ana",), "level", 1),
            (["ana"], "level", 1), ("ana", ["level"], 1), ("ana", "level", [1]),
        ):
            self.bad(row, NODES, LINKS, [row])
            self.bad(row, NODES, LINKS, [NUMBERS[0], row, NUMBERS[0]])

    def test_number_twice(self):
        self.bad(("ana", "level", 4), NODES, (), [("ana", "level", 3), ("ana", "level", 4)])
        self.bad(("ana", "level", 3), NODES, (), [("ana", "level", 3), ("sheet", "level", 3), ("ana", "level", 3)])

    def test_what_is_no_triple(self):
        for thing in JUNK:
            self.bad(thing, [BLUE, thing, BLUE])
            self.bad(thing, NODES, [LINKS[0], thing, LINKS[0]])
            self.bad(thing, NODES, LINKS, [NUMBERS[0], thing, NUMBERS[0]])
        self.bad(["ana", "in", "red"], NODES, [["ana", "in", "red"]])
        self.bad(list(ANA), [list(ANA)])

    def test_which_one_is_told(self):
        wrong_node, wrong_link, wrong_number = ("x", "none", ()), ("ana", "in", "bob"), ("ana", "level", -1)
        self.bad(wrong_node, (wrong_node, *NODES), [wrong_link], [wrong_number])
        self.bad(wrong_node, (*NODES, wrong_node), [wrong_link], [wrong_number])
        self.bad(wrong_link, NODES, (*LINKS, wrong_link), [wrong_number])
        self.bad(wrong_number, NODES, LINKS, [wrong_number])
        self.bad(("y", "none", ()), [("y", "none", ()), wrong_node])
        self.bad(("ana", "in", "sheet"), NODES, [("ana", "in", "sheet"), wrong_link])
        self.bad(("bob", "level", 1), NODES, (), [("bob", "level", 1), wrong_number])
        self.bad(wrong_number, NODES, (), [wrong_number, ("bob", "level", 1)])

    def test_too_many(self):
        self.assertEqual(len(world_of(BOOK, clerks(60), ())[0]), 60)
        links = [(name, "in", f"g{at}") for name, _, _ in clerks(40) for at in range(11)]
        nodes = (*clerks(40), *[(f"g{at}", "team", ()) for at in range(11)])
        self.assertEqual(len(world_of(BOOK, nodes, links[:400])[1]), 400)
        for wrong, row, others, numbers in (
            ("node", clerks(61), (), ()), ("node", clerks(61), links, ()), ("node", (ANA,) * 61, (), ()),
            ("node", (None,) * 61, (None,), (None,)), ("link", nodes, links[:401], ()), ("link", (), links, ()),
            ("link", (None,), [None] * 401, (None,)), ("link", NODES, [LINKS[0]] * 401, ()),
        ):
            with self.assertRaises(TooMany) as caught:
                world_of(BOOK, row, others, numbers)
            self.assertEqual(caught.exception.part, wrong)


class IsWorldTest(unittest.TestCase):
    def no(self, *worlds):
        for world in worlds:
            self.assertIs(is_world(BOOK, world), False, world)

    def test_worlds(self):
        for world in (WORLD, ((), (), ()), (NODES, (), NUMBERS), ((BOB,), (), ()), world_of(BOOK, clerks(60), ())):
            self.assertIs(is_world(BOOK, world), True)

    def test_order(self):
        for at in range(3):
            self.no((*WORLD[:at], WORLD[at][::-1], *WORLD[at + 1:]))
            self.no((*WORLD[:at], WORLD[at] + WORLD[at][-1:], *WORLD[at + 1:]))
            self.no((*WORLD[:at], WORLD[at][:1] + WORLD[at], *WORLD[at + 1:]))
        self.no(((("red", "team", ("old", "gold")),), (), ()))

    def test_numbers(self):
        for at in range(3):
            self.no((NODES, LINKS, NUMBERS[:at] + NUMBERS[at + 1:]))
        self.no((NODES, LINKS, ()), (NODES, LINKS, (*NUMBERS, ("zz0", "level", 1))))
        for worth in (True, False, None, -1, 10000, "3"):
            self.no((NODES, LINKS, (("ana", "level", worth), *NUMBERS[1:])))
        one = ((("ana", "clerk", ()),), (), (("ana", "level", 1),))
        self.assertIs(is_world(BOOK, one), True)
        self.no((one[0], one[1], (("ana", "level", True),)))

    def test_lists(self):
        self.no(list(WORLD))
        for at in range(3):
            self.no((*WORLD[:at], list(WORLD[at]), *WORLD[at + 1:]))
            self.no((*WORLD[:at], (list(WORLD[at][0]), *WORLD[at][1:]), *WORLD[at + 1:]))
        self.no(((("bob", "guest", []),), (), ()))

    def test_what_is_none(self):
        deep = ()
        for _ in range(8):
            deep = (deep,)
        for thing in (*JUNK, deep):
            if thing != ((), (), ()):
                self.no(thing)
            self.no(((thing,), (), ()), (NODES, (thing,), NUMBERS), (NODES, LINKS, (thing,)), (thing, LINKS, NUMBERS))
            self.no((NODES, LINKS, (thing, *NUMBERS)), (NODES, (thing, *LINKS), NUMBERS), ((thing, *NODES), LINKS, NUMBERS))
            if thing != ():
                self.no((NODES, thing, NUMBERS), (NODES, LINKS, thing))
        self.no(WORLD[:2], (*WORLD, ()), (LINKS, NODES, NUMBERS))

    def test_rules_of_world_of(self):
        self.no((NODES, (*LINKS, ("zz0", "in", "red")), NUMBERS), (NODES, (("ana", "in", "ana"), *LINKS), NUMBERS))
        self.no((NODES, (("red", "in", "blue"),), NUMBERS), ((("auditor", "guest", ()),), (), ()))

    def test_too_many(self):
        sixty_one = clerks(61)
        self.no((sixty_one, (), tuple((name, "level", 0) for name, _, _ in sixty_one)))
        nodes = tuple(sorted([("g" + name, "team", ()) for name, _, _ in clerks(21)]))
        links = tuple(sorted([(start, "in", end) for start, _, _ in nodes for end, _, _ in nodes]))
        self.assertIs(is_world(BOOK, (nodes, links[:400], ())), True)
        self.no((nodes, links[:401], ()), (nodes * 100000, (), ()))


class RowOfTest(unittest.TestCase):
    def test_rows(self):
        self.assertEqual(row_of(WORLD, "ana", "in"), ("blue", "case", "red"))
        self.assertEqual(row_of(WORLD, "ana", "keeps"), ("auditor", "note", "sheet"))
        self.assertEqual(row_of(WORLD, "case", "tops"), ("boss", "pile"))
        self.assertEqual(row_of(WORLD, "pile", "tops"), ("pile",))

    def test_no_links(self):
        self.assertEqual(row_of(WORLD, "ana", "tops"), ())
        self.assertEqual(row_of(WORLD, "sheet", "keeps"), ())
        self.assertEqual(row_of(WORLD, "bob", "keeps"), ())

    def test_not_there(self):
        for node in ("none", "auditor", "zz0", "team", ""):
            self.assertEqual(row_of(WORLD, node, "in"), ())
        self.assertEqual(row_of(((), (), ()), "ana", "in"), ())


if __name__ == "__main__":
    unittest.main()
