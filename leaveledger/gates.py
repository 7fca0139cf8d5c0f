"""Which lines of a book guard deeds."""

from leaveledger.deeds import is_deed
from leaveledger.housedeeds import is_house_deed
from leaveledger.plans import Plan

GUARDS = {"node": "node", "drop": "node", "tag": "tag", "number": "tag", "enact": "rule", "repeal": "rule"}


def gate_of(book, deed):
    """The first line that guards a deed; None if none does."""
    if not is_deed(deed) and not is_house_deed(deed):
        return None
    guard = GUARDS.get(deed[0])
    if deed[0] in ("link", "cut") and isinstance(deed[2], str) and deed[2] in Plan(book.plan).ties:
        guard = deed[2]
    for line in book.tree:
        if line[0] == "gate" and line[1] == guard:
            return line
    return None
