"""Sorting out truths that atoms cannot have, with papers that show it for parts of them."""

from leaveledger.findings import Finder, numbers_in, paper_of


class Sieve:
    """Lets pass the truths that atoms can have, and keeps a finding for a part of each of the others."""

    def __init__(self, outlook, ties):
        self.finder = Finder(outlook, ties)
        self.findings = {}

    def lets(self, first, second):
        """Whether the atoms can have these truths."""
        if any([is_part(part, first, second) for part in self.findings]):
            return False
        finding = self.finder.found(first, second)
        if finding is None:
            return True
        part = tuple([(number, first[number], second[number]) for number in numbers_in(finding)])
        self.findings[part] = finding
        return False

    def papers(self):
        """The tuple of the pairs of a part, with triples of a number and two truths, and its paper."""
        found = []
        for part in sorted(self.findings):
            numbers = [number for number, _, _ in part]
            found.append((part, paper_of(self.finder, self.findings[part], numbers)))
        return tuple(found)

    def papers_for_one(self):
        """The same for a single world: each part has pairs of a number and a truth."""
        return tuple([(tuple([row[:2] for row in part]), paper) for part, paper in self.papers()])


def is_part(part, first, second):
    """Whether atoms that have these truths have those of a part."""
    return all([first[number] == truth and second[number] == other for number, truth, other in part])
