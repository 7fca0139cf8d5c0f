"""Claims about further links: papers that they hold, or two worlds and an ask for which they do not."""

from leaveledger.building import completion, further_rows, row_of_way
from leaveledger.errors import TooMany
from leaveledger.linkcases import LinkCase, both_of
from leaveledger.sieves import Sieve
from leaveledger.valuations import uncovered


def link_claim(book, frame, claim):
    """Papers that a claim about further links holds, or a world, one with further links and an ask for which it does
    not hold; raises BadClaim, TooMany."""
    case = LinkCase(book, frame, claim)
    sieve = Sieve(case.outlook, case.ties)
    is_large = False
    for row in uncovered(case.choices(), []):
        first, second = both_of(row)
        if case.is_broken_by(row) and sieve.lets(first, second):
            try:
                return ("broken", *shown_worlds(sieve.finder, first, second))
            except TooMany:
                is_large = True
    if is_large:
        raise TooMany("node")
    return ("holds", sieve.papers())


def shown_worlds(finder, first, second):
    """A world in which the atoms have their first truths, one with further links in which they have their second ones,
    and the ask; raises TooMany."""
    outlook = finder.outlook
    ways = finder.least_ways(first, second)
    world, ask = completion(outlook, second, ways)
    rows = further_rows(outlook, ways)
    # Without its links by the ties such a row does not lead to its end, and no other row needs them.
    turned = [rows[row_of_way(outlook, pair)] for pair in ways if not first[pair[0]]]
    further = {link: True for _, links in turned for link in links if link[1] in finder.ties}
    return ((world[0], tuple([link for link in world[1] if link not in further]), world[2]), world, ask)
