"""Completions in which literals stand, or papers that show that there are none."""

from leaveledger.asks import check_partial
from leaveledger.building import completion
from leaveledger.errors import TooMany
from leaveledger.findings import Finder, paper_of
from leaveledger.outlooks import Outlook
from leaveledger.plans import Plan
from leaveledger.sights import kinds_in
from leaveledger.topics import Topic

MOST_LITERALS = 10


def realize(book, sight, ask, literals):
    """A completion in which all literals stand, or a paper that shows that there is none; raises BadAsk, TooMany."""
    check_partial(Plan(book.plan), kinds_in(sight), ask)
    if len(literals) > MOST_LITERALS:
        raise TooMany("atom")
    truths = tuple([truth for _, truth in literals])
    outlook = Outlook(Topic(book, [atom for atom, _ in literals]), sight, ask)
    finder = Finder(outlook, ())
    finding = finder.found(truths, truths)
    if finding is None:
        return ("world", completion(outlook, truths, finder.least_ways(truths, truths)))
    if finding[0] == "none":
        # The paper is one for all literals, so it has all rivals, not only those that were looked at.
        finding = ("none", finding[1], outlook.topic.rivals_of(finding[1], list(enumerate(truths))))
    return ("never", paper_of(finder, finding, list(range(len(literals)))))
