"""Whether an ask is surely a yes, surely none, or open, as far as a world is told [41]."""

import itertools
import random
import unittest

from leaveledger.answers import answer
from leaveledger.books import Book
from leaveledger.errors import BadAsk, TooMany
from leaveledger.reading import read
from leaveledger.sights import bare, judge_completion, sight_of
from leaveledger.sure import judge_sure, sure
from leaveledger.writing import write_walk
from tests import chance as by_chance, plainworlds
from tests.junk import JUNK, some_variants
from tests.plain import Plain
from tests.plainpapers import takes_sure
from tests.samples import EXAMPLE, REALM, RINGS
from tests.test_realizing import BOOK, NODES, ring_walk, sight_with

PLAIN = Plain(BOOK.tree)
LITTLE = Book(read(EXAMPLE))
ASK = ("ana", "view", "memo", (None, None), (None,), None)
FULL = ("ana", "view", "memo", (False, False), (0,), 0)
BOB = ("bob", "view", "memo", (False,), (), 0)
BOBS = ((("blue", "team", ()), ("bob", "clerk", ()), ("memo", "paper", ())), (("blue", "keeps", "memo"), ("bob", "in", "blue")), (), (), ())


def check_sure(case, book, sight, ask):
    """What is returned, with all that must be so of it."""
    found = sure(book, sight, ask)
    case.assertEqual(len(found), 3)
    if found[0] == "open":
        for pair, yes in zip(found[1:], (True, False)):
            case.assertIs(judge_completion(book, sight, ask, pair), True)
            case.assertIs(answer(book, *pair)[0] == "let", yes)
        return found
    word, yes, papers = found
    case.assertEqual(word, "sure")
    case.assertIs(type(yes), bool)
    case.assertIs(judge_sure(book, sight, ask, yes, papers), True)
    case.assertIs(takes_sure(book, sight, ask, yes, papers), True)
    case.assertIs(judge_sure(book, sight, ask, not yes, papers), False)
    return found


class SureTest(unittest.TestCase):
    def found(self, sight, ask, book=BOOK):
        return check_sure(self, book, sight, ask)

    def outcome(self, sight, ask, book=BOOK):
        """True, False, or None if it is open."""
        found = self.found(sight, ask, book)
        return found[1] if found[0] == "sure" else None

    def test_example(self):
        self.assertIsNone(self.outcome(BOBS, BOB, LITTLE))
        rows = (("blue", "in"), ("bob", "in"))
        self.assertIs(self.outcome((*BOBS[:2], rows, (), ()), BOB, LITTLE), False)
        for row in rows:
            self.assertIsNone(self.outcome((*BOBS[:2], (row,), (), ()), BOB, LITTLE))
        nodes = (("ana", "clerk", ()), ("memo", "paper", ()), ("red", "team", ("gold",)))
        links = (("ana", "in", "red"), ("red", "keeps", "memo"))
        for flag in (None, True, False):
            ask = ("ana", "view", "memo", (flag,), (), None)
            self.assertIs(self.outcome((nodes, links, (), (), ()), ask, LITTLE), True)
            for link in links:
                self.assertIsNone(self.outcome((nodes, (link,), (), (), ()), ask, LITTLE))

    def test_the_first_completion_is_a_yes(self):
        word, pair, other = self.found(BOBS, BOB, LITTLE)
        self.assertEqual((word, answer(LITTLE, *pair)[0], answer(LITTLE, *other)[0]), ("open", "let", "bar"))

    def test_what_is_told_of_the_ask(self):
        book = Book(read(REALM.split("let p1")[0] + "let p6 rank 9 clerk may view on paper when ask.amount <= now - 3 and ask is late and asker is fine ;"))
        sight = sight_with()
        for flags, amounts, now, yes in (((None, True), (3,), 6, None), ((None, True), (4,), 6, False), ((True, True), (None,), 2, False),
                                         ((True, True), (None,), 3, None), ((True, False), (0,), 9, False), ((True, None), (0,), 9, None)):
            self.assertIs(self.outcome(sight, ("ana", "view", "memo", flags, amounts, now), book), yes, (flags, amounts, now))
        for truth, flag, yes in ((True, True, True), (True, None, None), (False, True, False), (False, None, False)):
            told = sight_with(tags=(("ana", "fine", truth),))
            self.assertIs(self.outcome(told, ("ana", "view", "memo", (None, flag), (3,), 6), book), yes)

    def test_numbers_of_asker_and_thing(self):
        nodes, links = (("pile", "box", ()),), (("ana", "in", "pile"), ("pile", "keeps", "boss"))
        for numbers, inside, yes in (((("ana", "level", 3), ("memo", "level", 1)), False, True), ((("ana", "level", 4), ("memo", "level", 1)), False, None),
                                     ((("ana", "level", 4), ("memo", "level", 1)), None, None), ((("ana", "level", 4), ("memo", "level", 1)), True, True),
                                     ((("ana", "level", 2),), False, True), ((("memo", "level", 9997),), False, True), ((("memo", "level", 9996),), False, None)):
            self.assertIs(self.outcome(sight_with(nodes, links, numbers=numbers), (*ASK[:3], (inside, None), *ASK[4:])), yes, numbers)
        numbers, rows = (("ana", "level", 4), ("memo", "level", 1)), (("ana", "in"), ("ana", "keeps"), ("pile", "keeps"))
        self.assertIs(self.outcome(sight_with(nodes, links, rows, numbers=numbers), FULL), False)

    def test_rivals_where_a_told_path_has_led(self):
        book = Book(read(REALM.split("let p1")[0] + """walk a = (keeps | in) keeps ; walk b = in keeps ; walk c = keeps ;
            let p rank 1 clerk may view on paper when by a to thing and not by b to thing ; let q rank 1 clerk may copy on paper when by a to thing and not by c to thing ;"""))
        sight = sight_with((("blue", "team", ()),), (("ana", "in", "blue"),), (("ana", "in"), ("ana", "keeps"), ("blue", "in")))
        self.assertIs(self.outcome(sight, ASK, book), False)
        self.assertIsNone(self.outcome(sight, ("ana", "copy", *ASK[2:]), book))

    def test_frames_without_policies(self):
        for frame in (("guest", "view", "paper"), ("clerk", "edit", "paper")):
            sight, ask = bare(LITTLE, frame)
            self.assertEqual(sure(LITTLE, sight, ask), ("sure", False, ()))
            self.assertIs(judge_sure(LITTLE, sight, ask, False, ()), True)
            self.assertIs(judge_sure(LITTLE, sight, ask, True, ()), False)
            for papers in ((((), ("ring", ())),), (((), ("tag", 0)),), (((), ()),), (((),),), ((),)):
                for yes in (True, False):
                    self.assertIs(judge_sure(LITTLE, sight, ask, yes, papers), False)

    def test_policies_for_always(self):
        for text, yes in (("let p rank 1 clerk may view on paper when always ;", True), ("bar p rank 1 clerk may view on paper when always ;", False)):
            book = Book(read(EXAMPLE.split("let p1")[0] + text))
            sight, ask = bare(book, ("clerk", "view", "paper"))
            self.assertEqual(sure(book, sight, ask), ("sure", yes, ()))
            self.assertIs(judge_sure(book, sight, ask, yes, ()), True)
            self.assertIs(judge_sure(book, sight, ask, not yes, ()), False)

    def test_all_of_a_world_told(self):
        chance = random.Random(221)
        seen = {}
        for turn in range(150):
            world = by_chance.world(chance, BOOK, NODES, chance.choice((15, 40)))
            ask = ("ana", chance.choice(("view", "copy")), chance.choice(("memo", "zz1")), (chance.random() < 0.5, False), (chance.randint(0, 4),), 5)
            yes = PLAIN.answer(world, ask)[0] == "let"
            self.assertIs(self.outcome(sight_of(BOOK, world), ask), yes)
            seen[yes, ask[1]] = seen.get((yes, ask[1]), 0) + 1
        self.assertTrue(len(seen) == 4 and min(seen.values()) > 5, seen)

    def test_a_part_of_a_world_told(self):
        chance = random.Random(222)
        seen = {}
        for turn in range(250):
            world = by_chance.world(chance, BOOK, NODES, chance.choice((15, 40)))
            full = ("ana", chance.choice(("view", "copy")), chance.choice(("memo", "zz1")), (chance.random() < 0.5, False), (chance.randint(0, 4),), 5)
            sight = plainworlds.sight_by_chance(chance, sight_of(BOOK, world), (chance.choice((0.5, 1)), chance.choice((0, 0.7, 1)), 0.7, 0.7))
            ask = plainworlds.ask_by_chance(chance, full)
            outcome = self.outcome(sight, ask)
            seen[outcome] = seen.get(outcome, 0) + 1
            for _ in range(6):
                other, other_full = plainworlds.completed_by_chance(chance, BOOK, sight, ask, chance.randint(0, 3), chance.randint(0, 30))
                self.assertIs(judge_completion(BOOK, sight, ask, (other, other_full)), True)
                self.assertIn(outcome, (None, PLAIN.answer(other, other_full)[0] == "let"))
            if set(sight[1]) == set(world[1]) or not any(link[:2] in sight[2] and link not in sight[1] for link in world[1]):
                self.assertIn(outcome, (None, PLAIN.answer(world, full)[0] == "let"))
        self.assertTrue(len(seen) == 3 and min(seen.values()) > 20, seen)

    def test_asks_that_do_not_fit(self):
        for at, part in ((0, "memo"), (0, "zz9"), (1, "none"), (2, "ana"), (2, "boss"), (3, (None,)), (3, (0, None)), (3, [None, None]), (4, (None, None)),
                         (4, (-1,)), (4, None), (5, 10000), (5, True), (5, "")):
            with self.assertRaises(BadAsk) as caught:
                sure(BOOK, sight_with(), (*ASK[:at], part, *ASK[at + 1:]))
            self.assertEqual(caught.exception.part, at)
        with self.assertRaises(BadAsk) as caught:
            sure(BOOK, sight_with(), ("memo", "none", "ana", None, None, None))
        self.assertEqual(caught.exception.part, 0)

    def test_too_many_nodes(self):
        def book_with(many, cond):
            walk = ring_walk(37, (many % 37,)), ring_walk(38, [at for at in range(38) if at != many % 38])
            lines = [f"walk w{at} = {write_walk(part)} ;" for at, part in enumerate(walk)]
            return Book(read(RINGS + "flag f ;" + "".join(lines) + f"let p rank 1 clerk may view on paper when by w0 to thing and not by w1 to thing {cond} ;"))
        for many, cond, is_large in ((380, "", False), (450, "", True), (450, "or ask is f", False), (450, "and now <= now - 1", False)):
            book = book_with(many, cond)
            sight, ask = bare(book, ("clerk", "view", "paper"))
            if is_large:
                with self.assertRaises(TooMany) as caught:
                    sure(book, sight, ask)
                self.assertEqual(caught.exception.part, "node")
            else:
                self.assertIs(self.outcome(sight, ask, book), None if cond != "and now <= now - 1" else False)


class JudgeSureTest(unittest.TestCase):
    SIGHT = (*BOBS[:2], (("blue", "in"), ("bob", "in")), (), ())

    def judged(self, papers, yes=False, sight=SIGHT, ask=BOB, book=LITTLE):
        found = judge_sure(book, sight, ask, yes, papers)
        self.assertIs(found, takes_sure(book, sight, ask, yes, papers), papers)
        return found

    def test_papers(self):
        tag, row = (((1, True),), ("tag", 0)), (((2, True),), ("none", 0, ()))
        for papers in ((tag, row), (row, tag), (tag, row, tag), (tag, row, (((0, True), (2, True)), ("none", 1, ())))):
            self.assertIs(self.judged(papers), True, papers)
            self.assertIs(self.judged(papers, yes=True), False)
        for papers in ((), (tag,), (row,), [tag, row], (tag, row, ()), (tag, (row[0], ("none", 1, ()))), (tag, (((2, 1),), row[1])), (tag, row, None),
                       (tag, (((2, True), (0, True)), row[1])), (tag, (((0, True), (0, True), (2, True)), ("none", 2, ()))), (tag, row[::-1]),
                       ((((True, True),), ("tag", 0)), row), (tag, row, (((3, True),), ("tag", 0))), (tag, row, (((-1, True),), ("none", 0, ()))),
                       (tag, row, (((2, False),), ("none", 0, ()))), (tag, (((0, False), (2, True)), ("none", 1, ())))):
            self.assertIs(judge_sure(LITTLE, self.SIGHT, BOB, False, papers), False, papers)

    def test_what_is_no_papers(self):
        for other in JUNK:
            self.assertIs(self.judged(other), False)
            self.assertIs(self.judged((other,)), False)

    def test_whatever_stands_there(self):
        chance = random.Random(223)
        cases = [(self.SIGHT, BOB, False, LITTLE)]
        for turn in itertools.count():
            world = by_chance.world(chance, BOOK, NODES, 30)
            sight = plainworlds.sight_by_chance(chance, sight_of(BOOK, world), (1, 0.8, 0.8, 0.8))
            word, yes, papers = sure(BOOK, sight, FULL)
            if word == "sure" and papers:
                cases.append((sight, FULL, yes, BOOK))
            if len(cases) == 13:
                break
        taken = 0
        for sight, ask, yes, book in cases:
            papers = sure(book, sight, ask)[2]
            for other in some_variants(chance, papers, 150):
                taken += self.judged(other, yes, sight, ask, book)
            for at in range(len(papers)):
                self.judged(papers[:at] + papers[at + 1:], yes, sight, ask, book)
                self.judged(papers[at:] + papers[:at], yes, sight, ask, book)
        self.assertTrue(taken > 10, taken)


if __name__ == "__main__":
    unittest.main()
