"""Maps that keep the links [29]."""

import random
import unittest

from leaveledger.books import Book
from leaveledger.maps import judge_map
from leaveledger.reading import read
from leaveledger.reach import reached
from leaveledger.worlds import world_of
from tests import chance as by_chance
from tests.junk import some_variants
from tests.plainjudges import takes_map
from tests.samples import EXAMPLE
from tests.test_walked import BOOK as TOWN_BOOK, WORLD as TOWN_WORLD

BOOK = Book(read(EXAMPLE))
NODES = [("ana", "clerk", ()), ("bob", "clerk", ()), ("red", "team", ("gold",)), ("rose", "team", ("gold",)), ("blue", "team", ()),
         ("memo", "paper", ()), ("leaf", "paper", ())]
LINKS = [("ana", "in", "red"), ("bob", "in", "rose"), ("red", "keeps", "memo"), ("rose", "keeps", "leaf"), ("blue", "in", "red"),
         ("blue", "wears", "auditor")]
WORLD = world_of(BOOK, NODES, LINKS)
# The two clerks, the two gold teams and the two papers come together.
SECOND = world_of(BOOK, [("x", "clerk", ()), ("y", "team", ("gold",)), ("z", "paper", ()), ("w", "team", ())],
                  [("x", "in", "y"), ("y", "keeps", "z"), ("w", "in", "y"), ("w", "wears", "auditor"), ("x", "in", "w")])
PAIRS = (("ana", "x"), ("blue", "w"), ("bob", "x"), ("leaf", "z"), ("memo", "z"), ("red", "y"), ("rose", "y"))
SAME = tuple((node[0], node[0]) for node in WORLD[0])


def judged(pairs, world=WORLD, second=SECOND):
    return judge_map(BOOK, world, second, pairs)


def with_image(name, image):
    return tuple((other, image if other == name else known) for other, known in PAIRS)


class JudgeMapTest(unittest.TestCase):
    def test_maps_that_keep_the_links(self):
        self.assertIs(judged(PAIRS), True)
        self.assertIs(judged(SAME, second=WORLD), True)
        self.assertIs(judge_map(TOWN_BOOK, TOWN_WORLD, TOWN_WORLD, tuple((node[0], node[0]) for node in TOWN_WORLD[0])), True)

    def test_worlds_without_nodes_or_links(self):
        empty = ((), (), ())
        self.assertIs(judged((), empty, empty), True)
        self.assertIs(judged((), empty, SECOND), True)
        self.assertIs(judged((), WORLD, SECOND), False)
        self.assertIs(judged(SAME, (WORLD[0], (), ()), WORLD), True)
        self.assertIs(judged(SAME, WORLD, (WORLD[0], (), ())), False)

    def test_a_pair_left_out_or_put_in(self):
        for at in range(len(PAIRS)):
            self.assertIs(judged(PAIRS[:at] + PAIRS[at + 1:]), False, at)
            self.assertIs(judged((*PAIRS[:at], PAIRS[at], *PAIRS[at:])), False, at)
        self.assertIs(judged((*PAIRS, ("zoe", "x"))), False)
        self.assertIs(judged((("a", "x"), *PAIRS)), False)
        self.assertIs(judged((*PAIRS[:2], ("auditor", "auditor"), *PAIRS[2:])), False)
        self.assertIs(judged((("ana", "x"), ("ana", "y"), *PAIRS[1:])), False)

    def test_order(self):
        self.assertIs(judged(PAIRS[::-1]), False)
        self.assertIs(judged((PAIRS[1], PAIRS[0], *PAIRS[2:])), False)

    def test_images_that_are_not_there(self):
        for name, _ in PAIRS:
            for image in ("nobody", "auditor", "ana", "zz0", ""):
                self.assertIs(judged(with_image(name, image)), False, (name, image))

    def test_another_kind(self):
        for name, image in (("ana", "y"), ("leaf", "x"), ("blue", "z"), ("rose", "x")):
            self.assertIs(judged(with_image(name, image)), False, (name, image))
        guest = world_of(BOOK, [("ana", "guest", ())], ())
        clerk = world_of(BOOK, [("ana", "clerk", ())], ())
        self.assertIs(judged((("ana", "ana"),), guest, clerk), False)
        self.assertIs(judged((("ana", "ana"),), clerk, clerk), True)

    def test_tags_of_groups(self):
        one = world_of(BOOK, [("red", "team", ("gold",))], ())
        other = world_of(BOOK, [("red", "team", ())], ())
        self.assertIs(judged((("red", "red"),), one, other), False)
        self.assertIs(judged((("red", "red"),), other, one), False)
        self.assertIs(judged(with_image("blue", "y")), False)

    def test_tags_and_numbers_of_askers_and_things(self):
        nodes = [("ana", "clerk", ("gold",)), ("p", "paper", ("old",))]
        one = world_of(TOWN_BOOK, nodes, [("ana", "keeps", "p")], [("ana", "level", 7)])
        other = world_of(TOWN_BOOK, [("bob", "clerk", ("fine",)), ("q", "paper", ())], [("bob", "keeps", "q")], [("q", "size", 9)])
        self.assertIs(judge_map(TOWN_BOOK, one, other, (("ana", "bob"), ("p", "q"))), True)
        self.assertIs(judge_map(TOWN_BOOK, other, one, (("bob", "ana"), ("q", "p"))), True)

    def test_a_link_without_an_image(self):
        for link in SECOND[1]:
            fewer = (SECOND[0], tuple(other for other in SECOND[1] if other != link), SECOND[2])
            self.assertIs(judged(PAIRS, second=fewer), link == ("x", "in", "w"), link)

    def test_a_badge_is_its_own_image(self):
        one = world_of(TOWN_BOOK, [("pile", "box", ())], [("pile", "tops", "boss")])
        other = world_of(TOWN_BOOK, [("case", "box", ())], [("case", "tops", "boss")])
        none = world_of(TOWN_BOOK, [("case", "box", ()), ("heap", "box", ())], [("heap", "tops", "boss"), ("case", "tops", "heap")])
        self.assertIs(judge_map(TOWN_BOOK, one, other, (("pile", "case"),)), True)
        self.assertIs(judge_map(TOWN_BOOK, one, none, (("pile", "case"),)), False)
        self.assertIs(judge_map(TOWN_BOOK, one, none, (("pile", "heap"),)), True)

    def test_paths_have_images(self):
        images = dict(PAIRS)
        for text in ("@sees", "@gilt", "any*", "in* wears", "in{2}"):
            walk = read(f"walk w = {text} ;")[0][2]
            for node in ("ana", "bob", "blue", "red"):
                ends = {images.get(end, end) for end in reached(BOOK, WORLD, walk, node)}
                self.assertTrue(ends <= set(reached(BOOK, SECOND, walk, images[node])))

    def test_whatever_stands_there(self):
        chance = random.Random(111)
        for other in some_variants(chance, PAIRS, 2000):
            self.assertIs(judged(other), takes_map(BOOK, WORLD, SECOND, other), other)

    def test_by_chance(self):
        chance = random.Random(112)
        seen = {False: 0, True: 0}
        nodes = [("a1", "clerk", ("gold",)), ("a2", "clerk", ()), ("p1", "paper", ()), ("p2", "paper", ("old",)),
                 *[(name, "team", ()) for name in ("t1", "t2", "t3")], ("b1", "box", ("old",)), ("b2", "box", ("old",))]
        for turn in range(200):
            world = by_chance.world(chance, TOWN_BOOK, nodes, 15)
            second = by_chance.world(chance, TOWN_BOOK, nodes, 500)
            pairs = tuple((name, chance.choice([other for other, like, _ in nodes if like == kind])) for name, kind, _ in world[0])
            found = judge_map(TOWN_BOOK, world, second, pairs)
            self.assertIs(found, takes_map(TOWN_BOOK, world, second, pairs))
            seen[found] += 1
        self.assertTrue(min(seen.values()) > 20, seen)


if __name__ == "__main__":
    unittest.main()
