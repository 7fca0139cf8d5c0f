"""Papers that show that literals cannot stand together."""

from leaveledger.bounds import judge_ring
from leaveledger.forms import is_name_pair
from leaveledger.names import is_whole
from leaveledger.outlooks import Outlook
from leaveledger.rows import with_seen
from leaveledger.topics import Topic


def judge_never(book, sight, ask, literals, paper):
    """Whether a paper shows that there is no completion in which all literals stand."""
    outlook = Outlook(Topic(book, [atom for atom, _ in literals]), sight, ask)
    return is_never(outlook, [(number, truth) for number, (_, truth) in enumerate(literals)], paper)


def is_never(outlook, literals, paper):
    """The same for literals about the atoms of an outlook, as pairs of an atom's number and a truth."""
    if not isinstance(paper, tuple) or len(paper) < 2:
        return False
    if paper[0] == "ring":
        return len(paper) == 2 and is_ring(outlook, literals, paper[1])
    if not is_whole(paper[1], 0, len(literals) - 1):
        return False
    number, truth = literals[paper[1]]
    if paper[0] == "tag":
        return len(paper) == 2 and outlook.facts.is_against(outlook.topic.rows[number], truth)
    if len(paper) != 3 or number not in outlook.topic.walks:
        return False
    if paper[0] == "path":
        return not truth and is_told_path(outlook, number, paper[2])
    if paper[0] != "none" or not truth:
        return False
    return are_closed_rows(outlook, (number, *outlook.topic.rivals_of(number, literals)), paper[2])


def is_ring(outlook, literals, ring):
    """Whether a ring shows that no worths are such as the literals about numbers and what is told tell."""
    told = [(outlook.topic.rows[number], truth) for number, truth in literals if number in outlook.topic.bounds]
    return judge_ring(outlook.facts.bounds_with(told), ring)


def is_told_path(outlook, number, path):
    """Whether something is a path along told links that fulfils an atom's walk."""
    if not isinstance(path, tuple) or not all([is_name_pair(step) for step in path]):
        return False
    member = outlook.topic.company.members[number]
    name, places = outlook.ask[0], (0,)
    for tie, end in path:
        letters = [letter for letter, after in outlook.graph.links_of(name) if letter[0] == tie and after == end]
        if not letters:
            return False
        name, places = end, member(places, letters[0])
    return name == outlook.end_of(number) and outlook.topic.company.has_last(number, places)


def are_closed_rows(outlook, ats, told):
    """Whether rows of an atom's walk and its rivals show that there is no way to fulfil it and none of these."""
    rows = outlook.rows_of(ats)
    found = with_seen(told)
    if not rows.are_rows(found) or outlook.is_told(ats[0]):
        return False
    return rows.are_closed(found, outlook.steps_near(rows))
