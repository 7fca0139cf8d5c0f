"""Judges say False to what is nested too deep to be right, at whatever place it stands [2]."""

import unittest

from leaveledger.bounds import judge_ring, settle
from leaveledger.claimjudge import judge_claim
from leaveledger.claims import claimed
from leaveledger.growing import link_claim
from leaveledger.growjudge import judge_link_claim
from leaveledger.letters import is_word
from leaveledger.maps import judge_map
from leaveledger.nevers import judge_never
from leaveledger.peers import judge_peers
from leaveledger.realizing import realize
from leaveledger.reasons import judge_reason
from leaveledger.shut import judge_shut
from leaveledger.sights import bare, is_sight, judge_completion, sight_of
from leaveledger.sure import judge_sure, sure
from leaveledger.tables import table
from leaveledger.trees import is_tree
from leaveledger.within import judge_within
from leaveledger.worlds import is_world
from tests import test_claimjudge, test_growjudge, test_maps, test_nevers, test_peers, test_sights, test_sure, test_within
from tests.junk import nested

DEEP = (nested(9), nested(100), nested(100000), nested(100000, True), (0, nested(100000, "x")))


def with_deep(thing):
    """All tuples that one gets by putting something deep in the place of a part, or behind the parts of a tuple."""
    yield from DEEP
    if isinstance(thing, tuple):
        for at, part in enumerate(thing):
            for other in with_deep(part):
                yield (*thing[:at], other, *thing[at + 1:])
        for deep in DEEP:
            yield (*thing, deep)


class DeepTest(unittest.TestCase):
    def check(self, judge, *arguments):
        """That a judge takes its last argument, and nothing of what one gets from it."""
        *front, right = arguments
        self.assertIs(judge(*front, right), True)
        for other in with_deep(right):
            self.assertIs(judge(*front, other), False)

    def test_books_and_worlds(self):
        book = test_sights.TOWN_BOOK
        self.check(is_tree, book.tree[:14])
        self.check(is_tree, book.tree[-2:])
        self.check(is_world, book, test_sights.WORLD)
        self.check(is_sight, book, sight_of(book, test_sights.WORLD))
        self.check(judge_completion, book, test_sights.SIGHT, test_sights.ASK, (test_sights.WORLD, test_sights.FULL))

    def test_words_and_tables(self):
        self.check(is_word, test_within.BOOK, "clerk", "paper", (test_within.IN, test_within.KEEPS))
        self.check(judge_within, test_within.BOOK, "clerk", test_within.GILT, (test_within.SEES,), "paper", test_within.TABLE)

    def test_papers_about_worlds(self):
        book, world = test_peers.BOOK, test_peers.WORLD
        self.check(judge_shut, book, world, ("named", "sees"), "gus", "memo", (("gus", (0,)), ("leaf", (1, 2))))
        self.check(judge_map, test_maps.BOOK, test_maps.WORLD, test_maps.SECOND, test_maps.PAIRS)
        self.check(judge_peers, book, world, "bob", "ana", test_peers.TABLE)

    def test_rings_and_reasons(self):
        bounds = (("a", "b", -3), ("b", "a", 2))
        self.check(judge_ring, bounds, settle(bounds)[1])
        rows = table(test_within.BOOK, ("clerk", "view", "paper"))
        self.check(judge_reason, rows, ("none", 0, (), ()), ((0, False), (1, True)))

    def test_papers_about_all_worlds(self):
        book, sight, ask, literals = test_nevers.BOOK, test_nevers.SIGHT, test_nevers.ASK, test_nevers.LITERALS
        for paper in (("tag", 1), ("ring", test_nevers.RING), ("path", 5, test_nevers.PATH)):
            self.check(judge_never, book, sight, ask, literals, paper)
        literals = ((test_nevers.by("in[gold] keeps"), True), (test_nevers.by("in keeps"), False))
        sight, ask = bare(book, test_nevers.FRAME)
        self.check(judge_never, book, sight, ask, literals, realize(book, sight, ask, literals)[1])
        case = test_sure.JudgeSureTest
        papers = sure(test_sure.LITTLE, case.SIGHT, test_sure.BOB)[2]
        self.check(judge_sure, test_sure.LITTLE, case.SIGHT, test_sure.BOB, False, papers)
        for books, claim in test_claimjudge.CASES:
            if claimed(books, test_claimjudge.FRAME, claim)[1]:
                self.check(judge_claim, books, test_claimjudge.FRAME, claim, claimed(books, test_claimjudge.FRAME, claim)[1])

    def test_papers_about_further_links(self):
        for book, claim in test_growjudge.CASES[:3]:
            self.check(judge_link_claim, book, test_growjudge.FRAME, claim, link_claim(book, test_growjudge.FRAME, claim)[1])


if __name__ == "__main__":
    unittest.main()
