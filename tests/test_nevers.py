"""Papers that show that literals cannot stand together [39]."""

import random
import unittest

from leaveledger.letters import letters
from leaveledger.nevers import judge_never
from leaveledger.places import Places
from leaveledger.realizing import realize
from leaveledger.sights import bare, is_sight
from tests.junk import JUNK, some_variants
from tests.plainjudges import standings
from tests.plainpapers import takes_never
from tests.test_realizing import BOOK, FRAME, by, case_by_chance, sight_with

NODES = (("blue", "team", ()), ("grey", "team", ()), ("leaf", "paper", ()), ("pile", "box", ()), ("red", "team", ("gold",)))
LINKS = (("ana", "in", "blue"), ("ana", "in", "red"), ("blue", "in", "grey"), ("blue", "keeps", "memo"), ("grey", "in", "blue"), ("grey", "keeps", "leaf"),
         ("pile", "keeps", "boss"))
CLOSED = (("ana", "keeps"), ("blue", "keeps"), ("red", "in"))
TAGS = (("ana", "old", True), ("leaf", "fine", True), ("memo", "fine", False))
NUMBERS = (("ana", "level", 7), ("leaf", "level", 1))
SIGHT = sight_with(NODES, LINKS, CLOSED, TAGS, NUMBERS)
ASK = ("ana", "view", "memo", (None, True), (4,), None)
LITERALS = (
    (by("in in[-gold] keeps"), True), (("tag", "asker", "old"), False), (by("in[-gold] in keeps"), False), (("flag", "late"), False),
    (("atmost", "now", "asker.level", -2), True), (by("in keeps"), False), (("atmost", "ask.amount", "now", -2), True),
    (by("in+ keeps", "boss"), False), (("tag", "thing", "fine"), True), (("flag", "inside"), False),
)
PATH = (("in", "blue"), ("keeps", "memo"))
RING = (("now", "asker.level", -2), ("asker.level", "0", 7), ("0", "ask.amount", -4), ("ask.amount", "now", -2))


class JudgeNeverTest(unittest.TestCase):
    def judged(self, paper, literals=LITERALS, sight=SIGHT, ask=ASK):
        found = judge_never(BOOK, sight, ask, literals, paper)
        self.assertIs(found, takes_never(BOOK, sight, ask, literals, paper), (literals, paper))
        return found

    def setUp(self):
        self.assertIs(is_sight(BOOK, SIGHT), True)

    def test_tags_and_flags(self):
        for at in range(-1, 12):
            self.assertIs(self.judged(("tag", at)), at in (1, 3, 8), at)
        for paper in (("tag", True), ("tag", False), ("tag", "1"), ("tag", None), ("tag",), ("tag", 1, ()), ("tag", (1,)), ("flag", 3), ("tag", 1, 1)):
            self.assertIs(self.judged(paper), False, paper)
        for truth in (True, False):
            self.assertIs(self.judged(("tag", 0), ((("tag", "asker", "old"), truth),)), not truth)
            self.assertIs(self.judged(("tag", 0), ((("tag", "asker", "fine"), truth),)), False)
            self.assertIs(self.judged(("tag", 0), ((("flag", "late"), truth),)), not truth)
            self.assertIs(self.judged(("tag", 0), ((("tag", "thing", "fine"), truth),)), truth)
        # What is told of another thing does not matter.
        self.assertIs(self.judged(("tag", 0), ((("tag", "thing", "fine"), False),)), False)
        self.assertIs(self.judged(("tag", 0), ((("tag", "thing", "fine"), False),), ask=(*ASK[:2], "leaf", *ASK[3:])), True)

    def test_rings(self):
        self.assertIs(self.judged(("ring", RING)), True)
        for turns in range(4):
            self.assertIs(self.judged(("ring", RING[turns:] + RING[:turns])), True)
        self.assertIs(self.judged(("ring", RING + RING)), True)
        for at in range(4):
            self.assertIs(self.judged(("ring", RING[:at] + RING[at + 1:])), False)
            self.assertIs(self.judged(("ring", (*RING[:at], (*RING[at][:2], RING[at][2] - 1), *RING[at + 1:]))), False)
        for ring in ((), None, RING[0], RING[::-1], list(RING), (RING,)):
            self.assertIs(judge_never(BOOK, SIGHT, ASK, LITERALS, ("ring", ring)), False)
        for paper in (("ring",), ("ring", RING, ()), ("ring", 4, RING), RING, (RING,)):
            self.assertIs(self.judged(paper), False)
        self.assertIs(self.judged(("ring", RING), LITERALS[:6]), False)
        self.assertIs(self.judged(("ring", RING), ask=(*ASK[:4], (3,), None)), False)
        self.assertIs(self.judged(("ring", RING), sight=sight_with(NODES, LINKS, CLOSED, TAGS, ())), False)

    def test_rings_of_opposites_and_of_what_is_told(self):
        literals = ((("atmost", "now", "thing.level", 4), False), (("atmost", "now", "0", 4), True))
        ring = (("thing.level", "now", -5), ("now", "0", 4), ("0", "thing.level", 0))
        self.assertIs(self.judged(("ring", ring), literals), True)
        self.assertIs(self.judged(("ring", ring), (literals[1], literals[0])), True)
        self.assertIs(self.judged(("ring", ring), (literals[0], (literals[1][0], False))), False)
        self.assertIs(self.judged(("ring", ring), ((literals[0][0], True), literals[1])), False)
        ring = (("now", "0", 3), ("0", "thing.level", 0), ("thing.level", "now", -5))
        self.assertIs(self.judged(("ring", ring), literals[:1], ask=(*ASK[:5], 3)), True)
        self.assertIs(self.judged(("ring", ring), literals[:1], ask=(*ASK[:5], 4)), False)
        self.assertIs(self.judged(("ring", (("0", "now", -3), ("now", "0", 3))), literals[:1], ask=(*ASK[:5], 3)), False)
        worth = (("asker.level", "0", 9999), ("0", "asker.level", -10000))
        self.assertIs(self.judged(("ring", worth), ((("atmost", "asker.level", "0", 9999), False),)), True)
        self.assertIs(self.judged(("ring", worth), ((("atmost", "asker.level", "0", 9998), False),)), False)

    def test_paths(self):
        self.assertIs(self.judged(("path", 5, PATH)), True)
        self.assertIs(self.judged(("path", 0, PATH), ((by("in keeps"), False),)), True)
        self.assertIs(self.judged(("path", 0, PATH), ((by("in keeps"), True),)), False)
        self.assertIs(self.judged(("path", 2, (("in", "blue"), ("in", "grey"), ("in", "blue"), ("keeps", "memo")))), False)
        self.assertIs(self.judged(("path", 0, (("in", "blue"), ("in", "grey"), ("in", "blue"), ("keeps", "memo"))), ((by("@all"), False),)), True)
        for path in ((), PATH[:1], PATH[1:], PATH[::-1], (*PATH, ("keeps", "memo")), (("in", "red"), ("keeps", "memo")), (("in", "blue"), ("keeps", "leaf")),
                     (("in", "grey"), ("keeps", "leaf")), (("keeps", "memo"),), (("ana", "in", "blue"), ("blue", "keeps", "memo")), None, 0):
            self.assertIs(self.judged(("path", 5, path)), False, path)
        for at in (0, 1, 2, 4, 7, True, False, None, -5, 15):
            self.assertIs(self.judged(("path", at, PATH)), False, at)
        for paper in (("path", PATH), ("path", 5), ("path", 5, PATH, ()), ("path", PATH, 5), (5, PATH)):
            self.assertIs(self.judged(paper), False, paper)
        # The end is a badge; the box is not on a told path.
        path = (("in", "pile"), ("keeps", "boss"))
        literals = ((by("in keeps", "boss"), False),)
        self.assertIs(self.judged(("path", 0, path), literals), False)
        self.assertIs(self.judged(("path", 0, path), literals, sight_with(NODES, (*LINKS, ("ana", "in", "pile")))), True)
        self.assertIs(self.judged(("path", 0, path[:1]), literals, sight_with(NODES, (*LINKS, ("ana", "in", "pile")))), False)

    def test_rows(self):
        sight = sight_with(NODES, LINKS[:5], CLOSED)
        literals = (LITERALS[9], (by("in in[-gold] keeps"), True), (by("in in keeps"), False), (by("in keeps"), False),
                    (by("in in[-gold] keeps", "boss"), False))
        word, (form, at, rows) = realize(BOOK, sight, ASK, literals)
        self.assertEqual((word, form), ("never", "path"))
        sight = sight_with(NODES, LINKS[:3], CLOSED)
        word, (form, at, rows) = realize(BOOK, sight, ASK, literals)
        self.assertEqual((word, form, at), ("never", "none", 1))
        self.assertIs(self.judged(("none", 1, rows), literals, sight), True)
        self.assertTrue(len(rows) > 2)
        for row in rows:
            self.assertIs(self.judged(("none", 1, tuple(other for other in rows if other != row)), literals, sight), False, row)
        for other in (rows[::-1], (*rows, rows[-1]), list(rows), (rows[0], *rows), None, 0, (None,)):
            self.assertIs(judge_never(BOOK, sight, ASK, literals, ("none", 1, other)), False)
        for at in (0, 2, 3, 4, True, -4, 5, None):
            self.assertIs(self.judged(("none", at, rows), literals, sight), False, at)
        # Without one of its rivals, or as another end's, it is no paper for it.
        self.assertIs(self.judged(("none", 1, rows), (*literals[:2], *literals[3:]), sight), False)
        self.assertIs(self.judged(("none", 1, rows), (*literals[:3], (by("in keeps", "boss"), False)), sight), False)
        # With a path that is told it is none.
        self.assertIs(self.judged(("none", 1, rows), literals, sight_with(NODES, (*LINKS[:3], ("grey", "keeps", "memo")), CLOSED)), False)

    def test_larger_tables_than_needed(self):
        sight, ask = bare(BOOK, FRAME)
        literals = ((by("in[gold] keeps"), True), (by("in keeps"), False))
        rows = realize(BOOK, sight, ask, literals)[1][2]
        self.assertEqual(rows, (("team", ("gold",), (1,), ((1,),)),))
        more = {*rows, ("clerk", (), (0,), ((0,),))}
        self.assertIs(self.judged(("none", 0, tuple(sorted(more))), literals, sight, ask), True)
        # All rows for which nothing goes wrong, with empty sets and with sets that no word leads to.
        more = {(kind, marks, places, (others,)) for kind, marks in standings(BOOK) for places in ((), (0,), (1,), (2,), (0, 1))
                for others in ((), (0,), (1,), (0, 1, 2))}
        found = {row for row in more if not self.is_wrong(literals, row)}
        while True:
            fewer = {row for row in found if self.leads_within(literals, row, found)}
            if fewer == found:
                break
            found = fewer
        self.assertTrue(set(rows) < found and len(found) > 20, len(found))
        self.assertIs(self.judged(("none", 0, tuple(sorted(found))), literals, sight, ask), True)
        # One in which the walk can end where its rival cannot.
        self.assertIs(self.judged(("none", 0, tuple(sorted({*rows, ("team", (), (1,), ((0,),))}))), literals, sight, ask), False)
        self.assertIs(self.judged(("none", 0, tuple(sorted({*rows, ("team", (), (0,), ((0,),))}))), literals, sight, ask), True)
        self.assertIs(self.judged(("none", 0, tuple(sorted({*rows, ("team", (), (0,), ((),))}))), literals, sight, ask), False)

    def is_wrong(self, literals, row):
        walk, rival = [Places(BOOK, atom[1]) for atom, _ in literals]
        for letter in letters(BOOK, row[:2]):
            if letter[1] == "paper" and set(walk(row[2], letter)) & set(walk.last) and not set(rival(row[3][0], letter)) & set(rival.last):
                return True
        return False

    def leads_within(self, literals, row, rows):
        walk, rival = [Places(BOOK, atom[1]) for atom, _ in literals]
        after = [(*letter[1:], walk(row[2], letter), (rival(row[3][0], letter),)) for letter in letters(BOOK, row[:2]) if letter[1] in ("team", "box")]
        return all(other[2] == () or other in rows for other in after)

    def test_rows_of_another_form(self):
        sight, ask = bare(BOOK, FRAME)
        literals = ((by("in[gold] keeps"), True), (by("in keeps"), False))
        row = ("team", ("gold",), (1,), ((1,),))
        self.assertIs(self.judged(("none", 0, (row,)), literals, sight, ask), True)
        for other in (row[:3], (*row, ()), ("paper", (), (), ((),)), ("boss", (), (), ((),)), ("team", ("old",), (), ((),)), ("team", (), (3,), ((),)),
                      ("team", (), (), ((-1,),)), ("team", (), (), ()), ("team", (), (), ((), ())), ("team", (), (True,), ((),)), ("team", (), (1, 0), ((),)),
                      ("team", (), (1, 1), ((),)), ("team", (), 1, ((),)), ("team", (), (), (1,)), ("team", "gold", (), ((),)), ("team", (), (), ((None,),))):
            self.assertIs(self.judged(("none", 0, tuple(sorted((row, other), key=repr))), literals, sight, ask), False, other)
            self.assertIs(self.judged(("none", 0, tuple(sorted((row, other), key=repr, reverse=True))), literals, sight, ask), False, other)

    def test_literals_that_can_stand(self):
        sight, ask = bare(BOOK, FRAME)
        for paper in (*JUNK, ("tag", 0), ("tag", 1), ("path", 0, ()), ("path", 1, ()), ("none", 0, ()), ("none", 1, ()), ("ring", ())):
            for literals in ((), ((("flag", "late"), True),), ((by("keeps"), True), (("atmost", "now", "0", 4), False)), [(by("keeps"), False)]):
                self.assertIs(judge_never(BOOK, sight, ask, literals, paper), False, paper)

    def test_whatever_stands_there(self):
        chance = random.Random(211)
        sight, ask = bare(BOOK, FRAME)
        literals = ((by("@gilt"), True), (by("@deep"), False), (by("in keeps"), False), (by("@all", "boss"), False))
        rows = ("none", 0, realize(BOOK, sight, ask, (literals[0], (by("@all"), False)))[1][2])
        cases = [(("tag", 1), LITERALS, SIGHT, ASK), (("ring", RING), LITERALS, SIGHT, ASK), (("path", 5, PATH), LITERALS, SIGHT, ASK),
                 (rows, (literals[0], (by("@all"), False)), sight, ask)]
        for right, told, told_sight, partial in cases:
            seen = {True: 0, False: 0}
            self.assertIs(self.judged(right, told, told_sight, partial), True)
            for other in some_variants(chance, right, 900):
                seen[self.judged(other, told, told_sight, partial)] += 1
            self.assertTrue(seen[False] > 100 or right[0] == "tag", (right, seen))

    def test_by_chance(self):
        chance = random.Random(212)
        seen = {}
        for turn in range(300):
            sight, ask, literals = case_by_chance(chance, 60)
            word, paper = realize(BOOK, sight, ask, literals)
            if word == "never":
                self.assertIs(self.judged(paper, literals, sight, ask), True)
                seen[paper[0]] = seen.get(paper[0], 0) + 1
                for other in some_variants(chance, paper, 12)[-12:]:
                    self.judged(other, literals, sight, ask)
                others = list(literals)
                chance.shuffle(others)
                self.judged(paper, tuple(others), sight, ask)
                self.judged(paper, literals[:-1], sight, ask)
                self.judged(paper, tuple((atom, not truth) for atom, truth in literals), sight, ask)
        self.assertTrue(len(seen) == 4 and min(seen.values()) > 5, seen)


if __name__ == "__main__":
    unittest.main()
