"""Papers that show that claims about further links hold."""

from leaveledger.forms import is_ascending, is_pair
from leaveledger.linkcases import LinkCase
from leaveledger.names import is_whole
from leaveledger.nevers import are_closed_rows, is_ring
from leaveledger.rows import Rows
from leaveledger.valuations import uncovered


def judge_link_claim(book, frame, claim, papers):
    """Whether papers show that a claim about further links holds."""
    case = LinkCase(book, frame, claim)
    choices = case.choices()
    if not isinstance(papers, tuple) or not all([is_pair(pair) and is_part(choices, pair[0]) for pair in papers]):
        return False
    if not all([is_paper(case, part, paper) for part, paper in papers]):
        return False
    parts = [{number: (first, second) for number, first, second in part} for part, _ in papers]
    return not any([case.is_broken_by(row) for row in uncovered(choices, parts)])


def is_part(choices, part):
    """Whether something is an ascending tuple of triples of different atoms and two truths that they can have."""
    if not isinstance(part, tuple) or not all([is_triple(choices, row) for row in part]):
        return False
    return is_ascending([row[0] for row in part])


def is_triple(choices, row):
    """Whether something is an atom's number and two truths that it can have."""
    if not isinstance(row, tuple) or len(row) != 3 or not is_whole(row[0], 0, len(choices) - 1):
        return False
    return isinstance(row[1], bool) and isinstance(row[2], bool) and row[1:] in choices[row[0]]


def is_paper(case, part, paper):
    """Whether something shows that atoms cannot have the truths of a part."""
    if not isinstance(paper, tuple) or len(paper) < 2:
        return False
    firsts = [(number, first) for number, first, _ in part]
    if paper[0] == "ring":
        return len(paper) == 2 and is_ring(case.outlook, firsts, paper[1])
    if len(paper) != 3 or not is_whole(paper[1], 0, len(part) - 1):
        return False
    topic = case.outlook.topic
    number, first, second = part[paper[1]]
    if number not in topic.walks or not second:
        return False
    if paper[0] == "none":
        return first and are_closed_rows(case.outlook, (number, *topic.rivals_of(number, firsts)), paper[2])
    seconds = [(other, truth) for other, _, truth in part]
    return paper[0] == "turn" and not first and are_turns(case, (number, *topic.rivals_of(number, seconds)), paper[2])


def are_turns(case, ats, told):
    """Whether rows show that further links by the ties do not fulfil an atom's walk without one of its rivals."""
    outlook = case.outlook
    rows = Rows(outlook.topic.company, ats, outlook.letter_end(ats[0]), case.ties)
    first = rows.first(outlook.graph.standings[outlook.ask[0]][0], False)
    return rows.are_rows(told) and first in told and rows.are_closed(told, ())
