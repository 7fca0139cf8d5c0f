"""Rows: where a walk and its rivals are after words that lead to a standing."""

from leaveledger.forms import is_ascending
from leaveledger.places import is_place_set


class Rows:
    """Rows (kind, marks, seen, places, others) of the walks of a company that have some numbers, the first one's
    beside those of its rivals; seen tells whether a letter with one of some ties has been read, or is True where
    no such letter is needed."""

    def __init__(self, company, ats, end, ties):
        self.company = company
        self.ats = ats
        self.end = end
        self.ties = ties

    def first(self, kind, seen):
        """The row before the first letter."""
        return (kind, (), seen, (0,), tuple([(0,) for _ in self.ats[1:]]))

    def after(self, row):
        """For each letter with which a row leads on to places of the walk, the letter and the row behind it."""
        kind, marks, seen, places, others = row
        steps = self.company.steps_of((kind, marks), self.ats, (places, *others))
        return [(letter, self.behind(letter, seen, sets)) for letter, sets in steps]

    def behind(self, letter, seen, sets):
        """The row behind a letter, with the sets of places after it."""
        return (letter[1], letter[2], seen or letter[0] in self.ties, sets[0], sets[1:])

    def is_needed(self, letter):
        """Whether a paper needs the row to which a letter leads; the walk has places there."""
        return self.company.leads_to_group(letter)

    def is_beyond(self, letter, row):
        """Whether the words with this last letter lead to the end, are words of the walk, and of none of its rivals."""
        _, _, seen, places, others = row
        if letter[1] != self.end or not seen or not self.company.has_last(self.ats[0], places):
            return False
        return not any([self.company.has_last(at, other) for at, other in zip(self.ats[1:], others)])

    def closed(self, steps):
        """The ascending list of the rows to which steps lead, and of those to which these lead on."""
        found = {}
        waiting = list(steps)
        while waiting:
            letter, row = waiting.pop()
            if self.is_needed(letter) and row not in found:
                found[row] = True
                waiting.extend(self.after(row))
        return sorted(found)

    def are_closed(self, rows, steps):
        """Whether steps, and those from rows, lead only to these rows, and to no end that a paper must not have."""
        known = {row: True for row in rows}
        if not self.are_held(known, steps):
            return False
        return all([self.are_held(known, self.after(row)) for row in rows])

    def are_held(self, known, steps):
        """Whether steps lead only to known rows, and to no end that a paper must not have."""
        for letter, row in steps:
            if self.is_beyond(letter, row) or self.is_needed(letter) and row not in known:
                return False
        return True

    def are_rows(self, rows):
        """Whether something is an ascending tuple of different rows."""
        return isinstance(rows, tuple) and all([self.is_row(row) for row in rows]) and is_ascending(rows)

    def is_row(self, row):
        """Whether something is a standing, a truth, and for each walk a set of its places."""
        if not isinstance(row, tuple) or len(row) != 5:
            return False
        kind, marks, seen, places, others = row
        if not isinstance(seen, bool) or not self.company.alphabet.plan.is_standing(kind, marks):
            return False
        if not isinstance(others, tuple) or len(others) != len(self.ats) - 1:
            return False
        members = [self.company.members[at] for at in self.ats]
        return all([is_place_set(part, member.size) for part, member in zip((places, *others), members)])


def with_seen(rows):
    """Rows of four parts as rows for which no letter is needed; None if something is not a tuple of such."""
    if not isinstance(rows, tuple) or not all([isinstance(row, tuple) and len(row) == 4 for row in rows]):
        return None
    return tuple([(kind, marks, True, places, others) for kind, marks, places, others in rows])


def without_seen(rows):
    """Rows as the tuple of their parts but seen."""
    return tuple([(kind, marks, places, others) for kind, marks, _, places, others in rows])
