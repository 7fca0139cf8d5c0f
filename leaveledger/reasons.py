"""Reasons for the values of decision tables."""

from leaveledger.deciding import decide
from leaveledger.forms import is_ascending, is_pair
from leaveledger.names import is_integer


def reason(table, valuation):
    """A least reason for the value of a valuation."""
    value, looked = decide(table, valuation)
    truths = {atom: valuation[atom] for atom in looked}
    for atom in looked:
        fewer = without(truths, atom)
        if is_settled(table, value, fewer):
            truths = fewer
    return tuple(truths.items())


def judge_reason(table, value, reason):
    """Whether something is a least reason for a value."""
    if not isinstance(reason, tuple) or not all([is_told(pair) for pair in reason]):
        return False
    if not is_ascending([atom for atom, _ in reason]):
        return False
    truths = {atom: truth for atom, truth in reason}
    if not is_settled(table, value, truths):
        return False
    return not any([is_settled(table, value, without(truths, atom)) for atom in truths])


def is_told(pair):
    """Whether something is a pair of an atom and a truth."""
    return is_pair(pair) and is_integer(pair[0]) and isinstance(pair[1], bool)


def without(truths, atom):
    """The truths but that of one atom."""
    return {other: truth for other, truth in truths.items() if other != atom}


def is_settled(table, value, truths):
    """Whether all valuations with some truths lead to a value."""
    met = [False for _ in table]
    met[-1] = True
    for at in range(len(table) - 1, -1, -1):
        if met[at]:
            row = table[at]
            if row[0] == "leaf":
                if not is_same(row[1], value):
                    return False
            else:
                _, low, high = row
                truth = truths.get(row[0])
                met[low] = met[low] or truth is not True
                met[high] = met[high] or truth is not False
    return True


def is_same(value, other):
    """Whether two values are equal; True and False are not 1 and 0, also within tuples."""
    if isinstance(value, tuple) and isinstance(other, tuple):
        return len(value) == len(other) and all([is_same(part, beside) for part, beside in zip(value, other)])
    return isinstance(value, bool) == isinstance(other, bool) and value == other
