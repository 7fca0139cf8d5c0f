"""Books with no more lines that let than needs ask for."""

from leaveledger.books import Book
from leaveledger.claimcases import ClaimCase
from leaveledger.claims import claimed
from leaveledger.errors import TooMany, Unmet


def least_book(book, needs):
    """A tree without the `let` lines that no need asks for, and for each one that is left a need that asks for it, with
    a world and an ask that show it; raises BadClaim, TooMany, Unmet."""
    for at, (frame, cond) in enumerate(needs):
        if claimed((book,), frame, ("if", cond))[0] == "broken":
            raise Unmet(at)
    left = book
    for line in book.tree:
        if line[0] == "let":
            fewer = without_line(left, line)
            # With fewer lines that let fewer asks are a yes, so what is needed here is needed in the end.
            if all([is_met(fewer, frame, cond) for frame, cond in needs]):
                left = fewer
    lines = [line for line in left.tree if line[0] == "let"]
    return (left.tree, tuple([(line[1], *shown_need(without_line(left, line), needs)) for line in lines]))


def without_line(book, line):
    """The book without a policy's line."""
    return Book(tuple([other for other in book.tree if other != line]))


def is_met(book, frame, cond):
    """Whether a need holds for a book."""
    return ClaimCase((book,), frame, ("if", cond)).holds()


def shown_need(book, needs):
    """The number of a need that does not hold for a book, and a world and an ask that show it; raises TooMany."""
    for at, (frame, cond) in enumerate(needs):
        if not is_met(book, frame, cond):
            try:
                return (at, claimed((book,), frame, ("if", cond))[1])
            except TooMany:
                # Another need may be shown by a smaller world.
                pass
    raise TooMany("node")
