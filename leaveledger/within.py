"""Whether the words of a walk are words of other walks, with tables that show it."""

from leaveledger.companies import Company
from leaveledger.forms import is_ascending
from leaveledger.places import is_place_set
from leaveledger.trails import trail_to


def within(book, kind, walk, walks, end):
    """The least word of a walk that is none of the other walks, or a table that shows that there is none."""
    company = Company(book, [walk, *walks])
    first = first_row(kind, walks)
    came = {first: None}
    waiting = [first]
    at = 0
    while at < len(waiting):
        row = waiting[at]
        for letter, after in rows_after(company, row):
            if letter[1] == end and is_beyond(company, after):
                return ("beyond", (*trail_to(came, row), letter))
            if after not in came and is_needed(company, letter, after):
                came[after] = (row, letter)
                waiting.append(after)
        at += 1
    return ("within", tuple(sorted(waiting)))


def judge_within(book, kind, walk, walks, end, table):
    """Whether a table shows that each word of a walk is one of the other walks."""
    company = Company(book, [walk, *walks])
    if not isinstance(table, tuple) or not all([is_row(company, row) for row in table]) or not is_ascending(table):
        return False
    known = {row: True for row in table}
    if first_row(kind, walks) not in known:
        return False
    return all([is_held(company, end, known, row) for row in table])


def first_row(kind, walks):
    """The row before the first letter."""
    return (kind, (), (0,), tuple([(0,) for _ in walks]))


def rows_after(company, row):
    """For each letter with which a row leads on, ascending, the letter and the row behind it."""
    kind, marks, places, others = row
    steps = company.steps_from((kind, marks), (places, *others))
    return [(letter, (letter[1], letter[2], sets[0], sets[1:])) for letter, sets in steps]


def is_needed(company, letter, after):
    """Whether a table needs the row to which a letter leads."""
    return after[2] != () and company.leads_to_group(letter)


def is_beyond(company, row):
    """Whether the words that lead to a row are words of the walk and of none of the others."""
    _, _, places, others = row
    if not company.has_last(0, places):
        return False
    return not any([company.has_last(at + 1, other) for at, other in enumerate(others)])


def is_held(company, end, known, row):
    """Whether what a row leads on to is as a table must have it."""
    for letter, after in rows_after(company, row):
        if letter[1] == end and is_beyond(company, after):
            return False
        if is_needed(company, letter, after) and after not in known:
            return False
    return True


def is_row(company, row):
    """Whether something is a row: a standing, and for each walk a set of its places."""
    if not isinstance(row, tuple) or len(row) != 4:
        return False
    kind, marks, places, others = row
    if not company.alphabet.plan.is_standing(kind, marks):
        return False
    if not isinstance(others, tuple) or len(others) != len(company.members) - 1:
        return False
    sets = (places, *others)
    return all([is_place_set(part, member.size) for part, member in zip(sets, company.members)])
