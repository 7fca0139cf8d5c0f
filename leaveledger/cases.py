"""Asks at any moment."""

from leaveledger.answers import Asking
from leaveledger.policies import policies_of
from leaveledger.verdicts import answer_of


class Case:
    """An ask of a house in its world, whose moment is told each time."""

    def __init__(self, terrain, ask):
        self.asking = Asking(terrain, (*ask, 0))
        frame = self.asking.frame()
        self.lines = policies_of(terrain.book.flattened, frame)
        self.own_atoms = terrain.book.atoms(frame)
        self.truths = self.asking.valuation(self.own_atoms)

    def answer_at(self, now):
        """The answer at a moment."""
        truths = []
        for atom, truth in zip(self.own_atoms, self.truths):
            truths.append(self.is_kept(atom, now) if atom[0] == "atmost" else truth)
        return answer_of(self.lines, self.own_atoms, truths)

    def is_kept(self, atom, now):
        """Whether a comparison stands at a moment."""
        _, left, right, gap = atom
        return self.worth_at(left, now) <= self.worth_at(right, now) + gap

    def worth_at(self, term, now):
        """The worth of a term at a moment."""
        return now if term == "now" else self.asking.worths[term]

    def turning_moments(self):
        """The moments at which a comparison with now begins or ceases to stand, also such as are no worths."""
        found = []
        for atom in self.own_atoms:
            if atom[0] == "atmost" and (atom[1] == "now") != (atom[2] == "now"):
                _, left, right, gap = atom
                if left == "now":
                    found.append(self.asking.worths[right] + gap + 1)
                else:
                    found.append(self.asking.worths[left] - gap)
        return found
