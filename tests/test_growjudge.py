"""Papers that show that claims about further links hold [50], with [39]."""

import itertools
import random
import unittest

from leaveledger.books import Book
from leaveledger.growing import link_claim
from leaveledger.growjudge import judge_link_claim
from leaveledger.reading import read
from tests.junk import JUNK, some_variants
from tests.plainpapers import takes_link_claim
from tests.samples import EXAMPLE
from tests.test_claims import COPY, FRAME, book_by_chance, book_of

LITTLE = Book(read(EXAMPLE))
WALKS = "walk one = in keeps ; walk all = in* keeps ; walk two = in in keeps ; "
# Books and claims that hold for them.
CASES = (
    (LITTLE, ("safe", ("wears",))),
    (book_of(WALKS + "let p rank 1 clerk may view on paper when by one to thing and not by all to thing ;"), ("safe", ("in", "keeps"))),
    (book_of(WALKS + "let p rank 1 clerk may view on paper when by one to thing and asker.level <= now - 2 and not asker.level <= now ;"), ("safe", ("in",))),
    (book_of(WALKS + "let p rank 1 clerk may view on paper when by two to boss and by one to thing and not by all to thing ;"), ("safe", ("keeps",))),
    (book_of(WALKS + """let p rank 1 clerk may view on paper when by all to thing ; bar q rank 1 clerk may view on paper when by one to thing and not by all to thing ;
        let r rank 0 clerk may view on paper when always ;"""), ("keeps", ("in", "keeps"))),
    (book_of(WALKS + """let p rank 1 clerk may view on paper when not by two to boss or by all to boss ;"""), ("keeps", ("in",))),
)


class JudgeLinkClaimTest(unittest.TestCase):
    def judged(self, papers, book, claim, frame=FRAME):
        found = judge_link_claim(book, frame, claim, papers)
        self.assertIs(found, takes_link_claim(book, frame, claim, papers), (claim, papers))
        return found

    def papers(self, book, claim):
        word, papers = link_claim(book, FRAME, claim)
        self.assertEqual(word, "holds")
        return papers

    def test_papers_that_are_returned(self):
        forms = set()
        for book, claim in CASES:
            papers = self.papers(book, claim)
            self.assertTrue(papers)
            self.assertIs(self.judged(papers, book, claim), True)
            self.assertIs(self.judged((), book, claim), False)
            forms |= {paper[0] for _, paper in papers}
        self.assertEqual(forms, {"none", "turn", "ring"})

    def test_each_form_alone(self):
        book = CASES[1][0]
        rows = (("team", (), (1,), ((1,),)), ("team", ("gold",), (1,), ((1,),)), ("box", (), (1,), ((1,),)))
        none = (((0, True, True), (1, False, False)), ("none", 0, tuple(sorted(rows))))
        late = (((0, True, True), (1, False, True)), ("none", 0, tuple(sorted(rows))))
        turns = tuple(sorted([("clerk", (), False, (0,), ((0,),)), *[(kind, marks, True, (1,), ((1,),)) for kind, marks, _, _ in rows]]))
        turn = (((0, False, True), (1, False, False)), ("turn", 0, turns))
        claim = ("safe", ("in", "keeps"))
        self.assertIs(self.judged((none, late, turn), book, claim), True)
        self.assertIs(self.judged((turn, none), book, claim), True)
        self.assertIs(self.judged((none, late), book, claim), False)
        for other in ((turn[0], ("none", 0, turn[1][2])), (turn[0], ("turn", 1, turns)), (none[0], ("turn", 0, turns)), (turn[0], ("turn", 0, none[1][2])), (turn[0], none[1]),
                      (((0, False, True), (1, False, True)), ("turn", 0, turns)), (((0, False, True),), ("turn", 0, turns)), (((0, True, False), (1, False, False)), turn[1])):
            self.assertIs(self.judged((none, late, other), book, claim), False, other)
            self.assertIs(self.judged((none, late, turn, other), book, claim), False, other)

    def test_truths_that_atoms_cannot_have(self):
        book = book_of(WALKS + "let p rank 1 clerk may view on paper when by one to thing and not by all to thing and ask is late ;")
        claim = ("safe", ("in", "keeps"))
        papers = self.papers(book, claim)
        self.assertIs(self.judged(papers, book, claim), True)
        for part, (word, at, rows) in papers:
            for first, second in ((True, True), (False, False)):
                self.assertIs(self.judged((*papers, ((*part, (2, first, second)), (word, at, rows))), book, claim), True)
            for first, second in ((False, True), (True, False)):
                self.assertIs(self.judged((*papers, ((*part, (2, first, second)), (word, at, rows))), book, claim), False)
        # A walk that is fulfilled by further links alone is no rival of itself.
        part = ((0, False, True), (1, False, False))
        rows = tuple(sorted([("team", marks, (1,), ((1,), (1,))) for marks in ((), ("gold",))] + [("box", (), (1,), ((1,), (1,)))]))
        self.assertIs(self.judged((*papers, (part, ("none", 0, rows))), book, claim), False)
        part = ((0, False, True),)
        rows = tuple((kind, marks, places, (places,)) for kind, marks, places, _ in rows)
        self.assertIs(self.judged((*papers, (part, ("none", 0, rows))), book, claim), False)

    def test_seen(self):
        """Only rows behind a letter with one of the ties may not lead to the end."""
        book = book_of(WALKS + "let p rank 1 clerk may view on paper when by one to thing ;")
        rows = [("clerk", (), False, (0,), ()), ("box", (), False, (1,), ()), ("team", (), False, (1,), ()), ("team", ("gold",), False, (1,), ())]
        papers = ((((0, False, True),), ("turn", 0, tuple(sorted(rows)))),)
        self.assertIs(self.judged(papers, book, ("safe", ("in",))), False)
        self.assertIs(self.judged(papers, book, ("safe", ("keeps",))), False)
        other = Book((*book.plan, ("tie", "none", ("team",), ("team",)), *[line for line in book.tree if line not in book.plan]))
        self.assertIs(self.judged(papers, other, ("safe", ("none",))), True)
        self.assertEqual(self.papers(other, ("safe", ("none",))), papers)
        for row in rows:
            fewer = tuple(sorted(other_row for other_row in rows if other_row != row))
            self.assertIs(self.judged(((papers[0][0], ("turn", 0, fewer)),), other, ("safe", ("none",))), False, row)
            seen = tuple(sorted({*rows, (*row[:2], True, *row[3:])}))
            self.assertIs(self.judged(((papers[0][0], ("turn", 0, seen)),), other, ("safe", ("none",))), False, row)
            more = tuple(sorted({*rows, (*row[:2], True, (), ())}))
            self.assertIs(self.judged(((papers[0][0], ("turn", 0, more)),), other, ("safe", ("none",))), True, row)
            number = tuple(sorted((*other_row[:2], 0, *other_row[3:]) if other_row == row else other_row for other_row in rows))
            self.assertIs(judge_link_claim(other, FRAME, ("safe", ("none",)), ((papers[0][0], ("turn", 0, number)),)), False)

    def test_larger_tables_than_needed(self):
        book, claim = CASES[0]
        papers = self.papers(book, claim)
        part, (word, at, rows) = papers[0]
        more = tuple(sorted({*rows, ("guest", (), False, (), ()), ("team", (), True, (), ()), ("team", (), False, (), ())}))
        self.assertIs(self.judged(((part, (word, at, more)), *papers[1:]), book, claim), True)
        self.assertIs(self.judged(((part, (word, at, more[::-1])), *papers[1:]), book, claim), False)

    def test_another_order_and_more_than_is_needed(self):
        for book, claim in CASES:
            papers = self.papers(book, claim)
            for order in itertools.islice(itertools.permutations(papers), 6):
                self.assertIs(self.judged(order, book, claim), True)
            self.assertIs(self.judged(papers + papers[:1], book, claim), True)

    def test_other_claims_and_frames(self):
        book, claim = CASES[0]
        papers = self.papers(book, claim)
        for other in (("safe", ("in",)), ("safe", ("keeps",)), ("safe", ("in", "wears"))):
            self.assertIs(self.judged(papers, book, other), False)
        self.assertIs(self.judged(papers, book, ("keeps", ("wears",))), True)
        self.assertIs(self.judged(papers, book, claim, ("guest", "view", "paper")), False)
        self.assertIs(self.judged((), CASES[1][0], ("safe", ("in",)), COPY), True)

    def test_each_one_spoilt(self):
        for book, claim in CASES:
            papers = self.papers(book, claim)
            for at, (part, paper) in enumerate(papers):
                front, back = papers[:at], papers[at + 1:]
                self.judged(front + back, book, claim)
                for other in (part[1:], part[:-1], part[::-1] if len(part) > 1 else (), tuple((number + 1, *truths) for number, *truths in part),
                              tuple((number, int(first), second) for number, first, second in part), tuple((number, first, int(second)) for number, first, second in part),
                              tuple((number, True, False) for number, _, _ in part), tuple(row[:2] for row in part), tuple((*row, True) for row in part), list(part)):
                    if other != part or repr(other) != repr(part):
                        self.assertIs(judge_link_claim(book, FRAME, claim, (*front, (other, paper), *back)), False, (claim, other))
                for other in ((paper[0],), (*paper, ()), paper[1:], ("tag", 0), ("path", 0, ()), ("none", 0, ()), ("turn", 0, ()), ("ring", ())):
                    self.judged((*front, (part, other), *back), book, claim)

    def test_what_is_no_papers(self):
        book, claim = CASES[1]
        for other in (*JUNK, list(self.papers(book, claim))):
            self.assertIs(judge_link_claim(book, FRAME, claim, other), False)
            self.assertIs(judge_link_claim(book, FRAME, claim, (*self.papers(book, claim), other)), False)

    def test_whatever_stands_there(self):
        chance = random.Random(301)
        seen = {True: 0, False: 0}
        for book, claim in CASES:
            for other in some_variants(chance, self.papers(book, claim), 250):
                seen[self.judged(other, book, claim)] += 1
        self.assertTrue(seen[True] > 0 and seen[False] > 1000, seen)

    def test_by_chance(self):
        chance = random.Random(302)
        seen = 0
        while seen < 40:
            book = book_by_chance(chance)
            claim = (chance.choice(("keeps", "safe")), chance.choice((("in",), ("keeps",), ("in", "keeps"))))
            found = link_claim(book, FRAME, claim)
            if found[0] == "holds" and found[1]:
                seen += 1
                for other in some_variants(chance, found[1], 20)[-20:]:
                    self.judged(other, book, claim)
                for at in range(len(found[1])):
                    self.judged(found[1][:at] + found[1][at + 1:], book, claim)


if __name__ == "__main__":
    unittest.main()
