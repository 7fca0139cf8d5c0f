"""Whether the words of a walk are words of other walks, with tables that show it."""

from leaveledger.companies import Company
from leaveledger.rows import Rows, with_seen, without_seen
from leaveledger.trails import trail_to


def within(book, kind, walk, walks, end):
    """The least word of a walk that is none of the other walks, or a table that shows that there is none."""
    rows = rows_of(book, walk, walks, end)
    first = rows.first(kind, True)
    came = {first: None}
    waiting = [first]
    at = 0
    while at < len(waiting):
        row = waiting[at]
        for letter, after in rows.after(row):
            if rows.is_beyond(letter, after):
                return ("beyond", (*trail_to(came, row), letter))
            if after not in came and rows.is_needed(letter):
                came[after] = (row, letter)
                waiting.append(after)
        at += 1
    return ("within", without_seen(sorted(waiting)))


def judge_within(book, kind, walk, walks, end, table):
    """Whether a table shows that each word of a walk is one of the other walks."""
    rows = rows_of(book, walk, walks, end)
    told = with_seen(table)
    if not rows.are_rows(told):
        return False
    return rows.first(kind, True) in told and rows.are_closed(told, ())


def rows_of(book, walk, walks, end):
    """The rows of a walk beside the others."""
    return Rows(Company(book, [walk, *walks]), tuple(range(len(walks) + 1)), end, ())
