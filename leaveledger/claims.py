"""Claims for all worlds: papers that they hold, or a world and an ask for which they do not."""

from leaveledger.building import completion
from leaveledger.claimcases import ClaimCase
from leaveledger.sieves import Sieve


def claimed(books, frame, claim):
    """Papers that a claim about a frame holds, or a world with the least walking and an ask for which it does not hold;
    raises Unlike, BadClaim, TooMany."""
    case = ClaimCase(books, frame, claim)
    sieve = Sieve(case.outlook, ())
    found = [(row, sieve.finder.least_ways(row, row)) for row in case.breaking_rows() if sieve.lets(row, row)]
    if not found:
        return ("holds", sieve.papers_for_one())
    row, ways = min(found, key=walking_of)
    return ("broken", completion(case.outlook, row, ways))


def walking_of(pair):
    """The steps of the ways of a valuation, and what is less where the ways have fewer further groups."""
    ways = pair[1]
    return (sum([way[0] for _, way in ways]), -len(ways))
