"""Whether an ask is surely a yes or surely none, as far as a world is told."""

from leaveledger.asks import check_partial
from leaveledger.building import completion
from leaveledger.covers import are_papers
from leaveledger.errors import TooMany
from leaveledger.outlooks import Outlook
from leaveledger.plans import Plan
from leaveledger.policies import policies_of
from leaveledger.sieves import Sieve
from leaveledger.sights import frame_of, kinds_in
from leaveledger.topics import Topic
from leaveledger.valuations import valuations_in
from leaveledger.verdicts import whole_column, yes_column


def sure(book, sight, ask):
    """Whether an ask is a yes in all completions or in none, with papers, or two completions that show that it is
    open; raises BadAsk, TooMany."""
    check_partial(Plan(book.plan), kinds_in(sight), ask)
    frame = frame_of(sight, ask)
    outlook = Outlook(Topic(book, book.atoms(frame)), sight, ask)
    word, found = shown(outlook, outcome_rows(book, frame, True))
    if word == "papers":
        return ("sure", False, found)
    other_word, other_found = shown(outlook, outcome_rows(book, frame, False))
    if other_word == "papers":
        return ("sure", True, other_found)
    if "large" in (word, other_word):
        raise TooMany("node")
    return ("open", found, other_found)


def outcome_rows(book, frame, yes):
    """The valuations of a frame's atoms for which the answer is a yes, or for which it is none."""
    atoms = book.atoms(frame)
    column = yes_column(policies_of(book.flattened, frame), atoms)
    return valuations_in(column if yes else whole_column(atoms) ^ column, len(atoms))


def shown(outlook, rows):
    """A completion in which the atoms have the truths of one of the rows, or papers that show that there is none."""
    sieve = Sieve(outlook, ())
    is_large = False
    for row in rows:
        if sieve.lets(row, row):
            try:
                return ("pair", completion(outlook, row, sieve.finder.least_ways(row, row)))
            except TooMany:
                is_large = True
    return ("large", None) if is_large else ("papers", sieve.papers_for_one())


def judge_sure(book, sight, ask, yes, papers):
    """Whether papers show that an ask is a yes in all completions, or, with yes False, in none."""
    frame = frame_of(sight, ask)
    outlook = Outlook(Topic(book, book.atoms(frame)), sight, ask)
    return are_papers(outlook, papers, outcome_rows(book, frame, not yes))
