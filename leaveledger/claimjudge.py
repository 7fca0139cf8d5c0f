"""Papers that show that claims hold for all worlds."""

from leaveledger.claimcases import ClaimCase
from leaveledger.covers import are_papers


def judge_claim(books, frame, claim, papers):
    """Whether papers show that a claim about a frame holds."""
    case = ClaimCase(books, frame, claim)
    return are_papers(case.outlook, papers, case.breaking_rows())
