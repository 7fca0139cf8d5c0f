"""Papers that show that claims hold for all worlds [46]."""

import itertools
import random
import unittest

from leaveledger.books import Book
from leaveledger.claimjudge import judge_claim
from leaveledger.claims import claimed
from leaveledger.reading import read
from tests.junk import JUNK, some_variants
from tests.plainpapers import claim_atoms, takes_claim
from tests.samples import EXAMPLE
from tests.test_claims import COPY, FRAME, GILT, INSIDE, SEES, book_by_chance, book_of, claim_by_chance

LITTLE = Book(read(EXAMPLE))
WALKS = "walk one = in keeps ; walk all = in* keeps ; walk some = in+ keeps ;"
# For each case the books and a claim that holds for them.
FIRST = book_of(WALKS + "let p rank 1 clerk may view on paper when by one to thing and asker.level <= now - 2 ;")
SECOND = book_of(WALKS + "let q rank 4 clerk may view on paper when by some to thing and not now <= asker.level ;")
CASES = (
    ((LITTLE,), ("only", ("or", SEES, INSIDE))), ((LITTLE,), ("if", ("and", GILT, INSIDE))), ((FIRST,), ("only", ("walk", "all", "thing"))),
    ((FIRST, SECOND), ("within",)), ((FIRST,), ("if", ("and", ("walk", "one", "thing"), ("atmost", "asker.level", "now", -3)))),
    ((LITTLE,), ("if", ("and", GILT, ("not", SEES)))),
)


class JudgeClaimTest(unittest.TestCase):
    def judged(self, papers, books, claim, frame=FRAME):
        found = judge_claim(books, frame, claim, papers)
        self.assertIs(found, takes_claim(books, frame, claim, papers), (claim, papers))
        return found

    def papers(self, books, claim):
        word, papers = claimed(books, FRAME, claim)
        self.assertEqual(word, "holds")
        return papers

    def test_papers_that_are_returned(self):
        forms = set()
        for books, claim in CASES:
            papers = self.papers(books, claim)
            self.assertIs(self.judged(papers, books, claim), True)
            self.assertIs(judge_claim(list(books), FRAME, claim, papers), True)
            self.assertEqual(self.judged((), books, claim), papers == ())
            forms |= {paper[0] for _, paper in papers}
        self.assertEqual(forms, {"none", "ring"})

    def test_another_order_and_more_than_is_needed(self):
        for books, claim in CASES:
            papers = self.papers(books, claim)
            for order in itertools.islice(itertools.permutations(papers), 12):
                self.assertIs(self.judged(order, books, claim), True)
            self.assertIs(self.judged(papers + papers, books, claim), True)
            self.assertIs(self.judged((*papers, *[(part, paper) for part, paper in papers]), books, claim), True)

    def test_parts_with_more_than_is_needed(self):
        books, claim = (LITTLE,), ("if", ("and", GILT, ("not", SEES)))
        atoms = claim_atoms(books, FRAME, claim)
        part, (word, at, rows) = self.papers(books, claim)[0]
        self.assertEqual([atoms[number] for number, _ in part], [LITTLE.written_cond(SEES), LITTLE.written_cond(GILT)])
        self.assertEqual(part, ((0, False), (2, True)))
        # Four valuations with three truths of the part and the flag, each with a paper of its own.
        papers = tuple((((0, False), (1, flag), (2, True)), (word, 2, rows)) for flag in (True, False))
        self.assertIs(self.judged(papers, books, claim), True)
        self.assertIs(self.judged(papers[:1], books, claim), False)
        self.assertIs(self.judged(((papers[0][0], (word, 1, rows)), papers[1]), books, claim), False)

    def test_other_claims_and_frames(self):
        books, claim = CASES[2]
        papers = self.papers(books, claim)
        self.assertIs(self.judged(papers, books, ("if", claim[1])), False)
        self.assertIs(self.judged(papers, books, ("never",)), False)
        self.assertIs(self.judged(papers, books, ("only", ("walk", "all", "boss"))), False)
        self.assertIs(self.judged((), books, ("never",), COPY), True)
        self.assertIs(self.judged(papers, books, claim, COPY), False)
        self.assertIs(self.judged((), books, ("never",), FRAME), False)

    def test_each_one_spoilt(self):
        for books, claim in CASES:
            papers = self.papers(books, claim)
            for at, (part, paper) in enumerate(papers):
                front, back = papers[:at], papers[at + 1:]
                self.assertIs(self.judged(front + back, books, claim), False)
                for other in (part[1:], part[:-1], part[::-1] if len(part) > 1 else (), tuple((number + 1, truth) for number, truth in part),
                              tuple((number, not truth) for number, truth in part), tuple((number, int(truth)) for number, truth in part), list(part)):
                    self.assertIs(judge_claim(books, FRAME, claim, (*front, (other, paper), *back)), False, (claim, other))
                for other in ((paper[0],), (*paper, ()), paper[1:], ("tag", 0), ("path", 0, ()), ("none", 0, ()), ("ring", ())):
                    if other != paper:
                        self.judged((*front, (part, other), *back), books, claim)

    def test_what_is_no_papers(self):
        books, claim = CASES[3]
        for other in (*JUNK, list(self.papers(books, claim))):
            self.assertIs(judge_claim(books, FRAME, claim, other), False)
            self.assertIs(judge_claim(books, FRAME, claim, (*self.papers(books, claim), other)), False)

    def test_whatever_stands_there(self):
        chance = random.Random(261)
        seen = {True: 0, False: 0}
        for books, claim in CASES:
            for other in some_variants(chance, self.papers(books, claim), 250):
                seen[self.judged(other, books, claim)] += 1
        self.assertTrue(seen[True] > 0 and seen[False] > 1000, seen)

    def test_by_chance(self):
        chance = random.Random(262)
        seen = 0
        while seen < 40:
            books = tuple(book_by_chance(chance) for _ in range(chance.randint(1, 2)))
            claim = claim_by_chance(chance, books)
            word, papers = claimed(books, FRAME, claim)
            if word == "holds" and papers:
                seen += 1
                for other in some_variants(chance, papers, 20)[-20:]:
                    self.judged(other, books, claim)
                for at in range(len(papers)):
                    self.judged(papers[:at] + papers[at + 1:], books, claim)


if __name__ == "__main__":
    unittest.main()
