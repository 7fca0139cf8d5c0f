"""What stands for an ask, and answers [19], [20], with [6], [13] and [14]."""

import random
import unittest

from leaveledger.answers import answer, stands
from leaveledger.books import Book
from leaveledger.errors import BadAsk
from leaveledger.reading import read
from leaveledger.worlds import world_of
from tests import chance as by_chance
from tests.plain import Plain
from tests.samples import TOWN

TREE = read(TOWN)
BOOK = Book(TREE)
PLAIN = Plain(TREE)
NODES = (
    ("ana", "clerk", ("gold",)), ("bob", "guest", ()), ("cid", "clerk", ("fine",)), ("red", "team", ("gold",)),
    ("blue", "team", ()), ("case", "box", ("old",)), ("pile", "box", ()), ("memo", "memo", ()), ("sheet", "paper", ("old",)),
    ("leaf", "paper", ("fine",)),
)
LINKS = (
    ("ana", "in", "red"), ("bob", "in", "blue"), ("blue", "in", "red"), ("red", "keeps", "sheet"), ("blue", "keeps", "memo"),
    ("red", "keeps", "auditor"), ("cid", "keeps", "leaf"), ("bob", "tops", "pile"), ("pile", "tops", "boss"),
)
NUMBERS = (("ana", "level", 5), ("bob", "level", 0), ("cid", "level", 9999), ("sheet", "level", 3), ("sheet", "size", 7),
           ("memo", "size", 2), ("leaf", "level", 9998))
WORLD = world_of(BOOK, NODES, LINKS, NUMBERS)
ASK = ("ana", "view", "sheet", (False, True, False), (4, 0), 10)


def cond_of(text):
    return read(f"when c = {text} ;")[0][2]


def ask_with(**parts):
    """The ask with other parts."""
    names = ("asker", "action", "thing", "flags", "numbers", "now")
    return tuple(parts.get(name, part) for name, part in zip(names, ASK))


class StandsTest(unittest.TestCase):
    def check(self, expected, text, **parts):
        self.assertIs(stands(BOOK, WORLD, ask_with(**parts), cond_of(text)), expected, (text, parts))

    def test_tags(self):
        self.check(True, "asker is gold")
        self.check(False, "asker is fine")
        self.check(False, "asker is gold", asker="cid")
        self.check(True, "asker is fine", asker="cid")
        self.check(True, "thing is old")
        self.check(False, "thing is fine")
        self.check(True, "thing is fine", thing="leaf")
        self.check(False, "thing is old", thing="leaf")
        self.check(False, "asker is fine", thing="leaf")

    def test_flags(self):
        for at, name in enumerate(("inside", "late", "third")):
            flags = tuple(place == at for place in range(3))
            for other in ("inside", "late", "third"):
                self.check(other == name, f"ask is {other}", flags=flags)
                self.check(other != name, f"ask is {other}", flags=tuple(not truth for truth in flags))

    def test_walks(self):
        self.check(True, "by sees to thing")
        self.check(True, "by gilt to thing")
        self.check(False, "by sees to thing", thing="leaf")
        self.check(True, "by sees to thing", asker="cid", thing="leaf")
        self.check(True, "by gilt to thing", asker="bob")
        self.check(False, "by gilt to thing", asker="bob", thing="memo")
        self.check(True, "by sees to thing", asker="bob", thing="memo")
        self.check(True, "by sees to auditor")
        self.check(False, "by sees to boss", asker="bob")
        self.check(True, "by boxed to boss", asker="bob")
        self.check(False, "by sees to auditor", asker="cid")
        self.check(True, "by chart to thing")
        self.check(True, "by chart to thing", asker="bob")
        self.check(False, "by chart to thing", asker="cid", thing="leaf")
        self.check(False, "by chart to auditor")

    def test_walks_that_are_no_names(self):
        keeps = ("step", "keeps", ())
        for walk, expected in ((("then", ("step", "in", ()), keeps), True), (keeps, False), (("named", "sees"), True),
                               (("upto", ("named", "gilt"), 2), True), (("table", (), 0), False),
                               (("table", ((0, ("in", "team", ("gold",)), 1), (1, ("keeps", "paper", ()), 0)), 0), True)):
            self.assertIs(stands(BOOK, WORLD, ASK, ("walk", walk, "thing")), expected, walk)
            self.assertIs(stands(BOOK, WORLD, ASK, ("not", ("walk", walk, "thing"))), not expected, walk)
        self.assertIs(stands(BOOK, WORLD, ASK, ("walk", ("plus", ("step", "any", ())), "auditor")), True)

    def test_terms(self):
        self.check(True, "asker.level <= 0 + 5")
        self.check(False, "asker.level <= 0 + 4")
        self.check(True, "0 <= asker.level - 5")
        self.check(False, "0 <= asker.level - 6")
        self.check(True, "thing.level <= ask.amount - 1")
        self.check(False, "thing.level <= ask.amount - 2")
        self.check(True, "thing.size <= thing.level + 4")
        self.check(False, "thing.size <= thing.level + 3")
        self.check(True, "now <= thing.size + 3")
        self.check(False, "now <= thing.size + 2")
        self.check(True, "asker.level <= now - 5")
        self.check(False, "asker.level <= now - 6")
        self.check(True, "ask.sum <= 0")
        self.check(False, "ask.sum <= 0", numbers=(0, 1))
        self.check(True, "ask.amount <= ask.sum - 2", numbers=(3, 5))
        self.check(False, "ask.amount <= ask.sum - 3", numbers=(3, 5))
        self.check(True, "0 <= 0")
        self.check(False, "0 <= 0 - 1")
        self.check(True, "now <= now")

    def test_greatest_and_least(self):
        ends = {"asker": "cid", "thing": "leaf"}
        self.check(True, "asker.level <= 0 + 9999", **ends)
        self.check(False, "asker.level <= 0 + 9998", **ends)
        self.check(True, "thing.level <= asker.level - 1", **ends)
        self.check(False, "thing.level <= asker.level - 2", **ends)
        self.check(True, "0 <= asker.level - 9999", **ends)
        self.check(False, "0 <= thing.level - 9999", **ends)
        self.check(True, "thing.size <= 0", **ends)
        self.check(True, "now <= 0 + 9999", now=9999)
        self.check(False, "now <= 0 + 9998", now=9999)
        self.check(True, "ask.amount <= now - 9999", now=9999, numbers=(0, 9999))
        self.check(False, "ask.sum <= now - 9999", now=9999, numbers=(0, 1))

    def test_asker_and_thing_of_one_number(self):
        self.check(False, "asker.level <= thing.level")
        self.check(True, "thing.level <= asker.level")
        self.check(True, "asker.level <= thing.level", asker="bob")

    def test_words_between(self):
        true, false = "always", "ask is third"
        for first, second, both, either in ((true, true, True, True), (true, false, False, True),
                                            (false, true, False, True), (false, false, False, False)):
            self.check(both, f"{first} and {second}")
            self.check(either, f"{first} or {second}")
            self.check(not both, f"not ({first} and {second})")
            self.check(not either, f"not {first} and not {second}")
        self.check(True, "always or always and ask is third")
        self.check(False, "(always or always) and ask is third")

    def test_named(self):
        self.check(False, "@calm")
        self.check(True, "@calm", flags=(True, False, False))
        self.check(False, "@calm", flags=(True, True, False))
        self.check(True, "@high")
        self.check(False, "@high", numbers=(2, 0))
        self.check(True, "@high and not asker.level <= ask.amount + 2", numbers=(2, 0), flags=(True, False, True))
        self.check(True, "not @high or @calm", numbers=(2, 0))

    def test_against_the_plain_meaning(self):
        chance = random.Random(12)
        texts = ("by sees to thing", "by gilt to thing", "by far to thing", "by chart to thing", "by boxed to boss",
                 "by far to auditor", "@high", "@calm", "asker.level <= thing.level + 1", "now <= ask.sum - 2")
        for _ in range(60):
            world = by_chance.world(chance, BOOK, NODES, 70)
            ask = random_ask(chance)
            for text in texts:
                expected = PLAIN.stands(world, ask, cond_of(text)) if ask[2] != "memo" or "thing.level" not in text else None
                if expected is not None:
                    self.assertIs(stands(BOOK, world, ask, cond_of(text)), expected, (world, ask, text))


def random_ask(chance):
    """An ask that fits the nodes."""
    flags = tuple(chance.random() < 0.5 for _ in range(3))
    numbers = (chance.randint(0, 9), chance.randint(0, 9))
    return (chance.choice(("ana", "bob", "cid")), chance.choice(("view", "copy", "edit")),
            chance.choice(("sheet", "leaf", "memo")), flags, numbers, chance.randint(0, 9))


class BadAskTest(unittest.TestCase):
    WRONG = {
        0: ("bet", "red", "sheet", "auditor", "clerk", "", "zz0", None, 0, True, ("ana",), ["ana"]),
        1: ("see", "both", "@both", "p1", "", None, 0, False, ("view",), ["view"]),
        2: ("none", "red", "ana", "auditor", "paper", "", None, 1, ("sheet",), ["sheet"]),
        3: ((), (True,), (True, False), (True, False, True, False), [True, False, True], None, True, "fff", (0, 1, 0),
            (True, False, 0), (1, False, True), (True, None, False), (True, "", False), ((True, False, True),)),
        4: ((), (1,), (1, 2, 3), [1, 2], None, 0, "12", (True, 2), (1, False), (-1, 0), (0, -1), (10000, 0), (0, 10000),
            (1, None), ("1", 2), ((1, 2),), (1, (2,)), (0, [0])),
        5: (True, False, None, -1, 10000, "0", (), (0,), [0]),
    }

    def bad(self, part, ask):
        for call in (lambda: answer(BOOK, WORLD, ask), lambda: stands(BOOK, WORLD, ask, ("always",))):
            with self.assertRaises(BadAsk) as caught:
                call()
            self.assertEqual(caught.exception.part, part, ask)

    def test_each_part(self):
        for part, row in self.WRONG.items():
            for wrong in row:
                self.bad(part, (*ASK[:part], wrong, *ASK[part + 1:]))

    def test_the_first_of_several(self):
        for first in range(6):
            for second in range(first + 1, 6):
                ask = list(ASK)
                ask[first], ask[second] = self.WRONG[first][-1], self.WRONG[second][0]
                self.bad(first, tuple(ask))
        for first in range(6):
            self.bad(first, (*ASK[:first], *[row[0] for row in list(self.WRONG.values())[first:]]))

    def test_other_numbers_of_parts(self):
        for many in range(6):
            self.bad(many, ASK[:many])
        self.bad(6, (*ASK, 0))
        for thing in (list(ASK), None, "ana"):
            self.bad(0, thing)

    def test_ahead_of_all_else(self):
        with self.assertRaises(BadAsk):
            stands(BOOK, ((), (), ()), ASK, ("always",))
        empty = Book(())
        with self.assertRaises(BadAsk) as caught:
            answer(empty, ((), (), ()), ASK)
        self.assertEqual(caught.exception.part, 0)

    def test_what_fits(self):
        self.assertEqual(answer(BOOK, WORLD, ask_with(numbers=(0, 9999), now=9999))[0], "let")
        self.assertEqual(answer(BOOK, WORLD, ask_with(flags=(False,) * 3, now=0))[0], "let")
        world = world_of(BOOK, [("zz7", "guest", ()), ("zz8", "memo", ())], ())
        self.assertEqual(answer(BOOK, world, ("zz7", "edit", "zz8", (False,) * 3, (0, 0), 0)), ("let", 0, ("p7",), ()))

    def test_no_flags_and_no_asked_numbers(self):
        book = Book(read("asker a; thing t; action go; let p rank 3 a may go on t when now <= 0 + 5;"))
        world = world_of(book, [("x", "a", ()), ("y", "t", ())], ())
        self.assertEqual(answer(book, world, ("x", "go", "y", (), (), 5)), ("let", 3, ("p",), ()))
        self.assertEqual(answer(book, world, ("x", "go", "y", (), (), 6)), ("none", 0, (), ()))
        for part, ask in ((3, ("x", "go", "y", (False,), (), 5)), (4, ("x", "go", "y", (), (0,), 5)),
                          (3, ("x", "go", "y", [], (), 5)), (4, ("x", "go", "y", (), [], 5))):
            with self.assertRaises(BadAsk) as caught:
                answer(book, world, ask)
            self.assertEqual(caught.exception.part, part)


PLAN = """\
asker a b ;
thing t u ;
flag f g h ;
action go do ;
duty log tell ring sing ;
"""


class AnswerTest(unittest.TestCase):
    def check(self, lines, *answer_parts, flags=(False, False, False), ask=("x", "go", "y")):
        book = Book(read(PLAN + lines))
        world = world_of(book, [("x", "a", ()), ("v", "b", ()), ("y", "t", ()), ("w", "u", ())], ())
        self.assertEqual(answer(book, world, (*ask, flags, (), 0)), answer_parts, (lines, flags, ask))

    NONE = ("none", 0, (), ())

    def test_none_holds(self):
        self.check("", *self.NONE)
        self.check("let p rank 5 a may go on t when ask is f due log;", *self.NONE)
        self.check("bar p rank 5 a may go on t when ask is f;", *self.NONE)
        self.check("let p rank 0 a may go on t when always;", "let", 0, ("p",), ())
        self.check("bar p rank 0 a may go on t when always;", "bar", 0, ("p",), ())

    def test_other_frames(self):
        line = "let p rank 5 a may go on t when always due log;"
        self.check(line, "let", 5, ("p",), ("log",))
        self.check(line, *self.NONE, ask=("v", "go", "y"))
        self.check(line, *self.NONE, ask=("x", "do", "y"))
        self.check(line, *self.NONE, ask=("x", "go", "w"))
        self.check("role r = do go; let p rank 5 b a may @r on u t when always;", "let", 5, ("p",), (), ask=("v", "do", "w"))

    def test_the_highest_rank(self):
        lines = ("let p rank 5 a may go on t when always due log; let q rank 7 a may go on t when ask is f due tell; "
                 "let r rank 9 a may go on t when ask is g due ring;")
        self.check(lines, "let", 5, ("p",), ("log",))
        self.check(lines, "let", 7, ("q",), ("tell",), flags=(True, False, False))
        self.check(lines, "let", 9, ("r",), ("ring",), flags=(False, True, False))
        self.check(lines, "let", 9, ("r",), ("ring",), flags=(True, True, True))

    def test_let_and_bar(self):
        lines = ("bar p rank 5 a may go on t when ask is f; let q rank 6 a may go on t when ask is g due log; "
                 "bar r rank 7 a may go on t when ask is h;")
        self.check(lines, "bar", 5, ("p",), (), flags=(True, False, False))
        self.check(lines, "let", 6, ("q",), ("log",), flags=(True, True, False))
        self.check(lines, "bar", 7, ("r",), (), flags=(True, True, True))

    def test_let_and_bar_of_one_rank(self):
        lines = ("let p rank 5 a may go on t when ask is f due log; bar q rank 5 a may go on t when ask is g; "
                 "let r rank 5 a may go on t when ask is f due tell; bar s rank 5 a may go on t when ask is h;")
        self.check(lines, "let", 5, ("p", "r"), ("log", "tell"), flags=(True, False, False))
        self.check(lines, "bar", 5, ("q",), (), flags=(True, True, False))
        self.check(lines, "bar", 5, ("s",), (), flags=(True, False, True))
        self.check(lines, "bar", 5, ("q", "s"), (), flags=(True, True, True))
        self.check(lines, "bar", 5, ("q", "s"), (), flags=(False, True, True))
        self.check("let z rank 9 a may go on t when ask is f;" + lines, "let", 9, ("z",), (), flags=(True, True, True))

    def test_duties_once(self):
        lines = ("let p rank 5 a may go on t when always due tell log; let q rank 5 a may go on t when ask is f due ring log; "
                 "let r rank 5 a may go on t when always due log sing tell; let s rank 4 a may go on t when always due ring;")
        self.check(lines, "let", 5, ("p", "r"), ("tell", "log", "sing"))
        self.check(lines, "let", 5, ("p", "q", "r"), ("tell", "log", "ring", "sing"), flags=(True, False, False))

    def test_order_of_the_book(self):
        lines = "let z rank 5 a may go on t when always; let m rank 5 a may go on t when always; " \
                "let b1 rank 5 a may go on t when always;"
        self.check(lines, "let", 5, ("z", "m", "b1"), ())

    def test_against_the_plain_meaning(self):
        chance = random.Random(13)
        seen = {}
        for _ in range(250):
            world = by_chance.world(chance, BOOK, NODES, chance.choice((10, 40, 80)))
            ask = random_ask(chance)
            expected = PLAIN.answer(world, ask)
            self.assertEqual(answer(BOOK, world, ask), expected, (world, ask))
            seen[expected[:3]] = True
        self.assertTrue(len(seen) > 8, seen)


if __name__ == "__main__":
    unittest.main()
