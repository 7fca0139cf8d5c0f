"""Whether papers show for all truths of some kind that atoms cannot have them."""

from leaveledger.forms import is_ascending, is_pair
from leaveledger.nevers import is_never
from leaveledger.reasons import is_told
from leaveledger.valuations import uncovered


def are_papers(outlook, papers, rows):
    """Whether papers are pairs of a part and a paper for its literals, and each of some rows, valuations of the atoms
    of an outlook, has all truths of some part."""
    many = len(outlook.topic.rows)
    if not isinstance(papers, tuple) or not all([is_pair(pair) and is_part(many, pair[0]) for pair in papers]):
        return False
    if not all([is_never(outlook, part, paper) for part, paper in papers]):
        return False
    left = uncovered([(False, True) for _ in range(many)], [dict(part) for part, _ in papers])
    barred = {row: True for row in rows}
    return not any([row in barred for row in left])


def is_part(many, part):
    """Whether something is an ascending tuple of pairs of different numbers below many and truths."""
    if not isinstance(part, tuple) or not all([is_told(pair) and 0 <= pair[0] < many for pair in part]):
        return False
    return is_ascending([number for number, _ in part])
