"""Books that are let."""

from leaveledger.errors import BadTree, NotLet
from leaveledger.faults import faults
from leaveledger.flatten import flat
from leaveledger.meanings import Meanings
from leaveledger.policies import atoms_of, frames_of, merged, policies_in, policies_of
from leaveledger.trees import is_tree

UNPLANNED = ("walk", "when", "role", "gate", "let", "bar")


class Book:
    """A book that is let."""

    def __init__(self, tree):
        if not is_tree(tree):
            raise BadTree()
        found = faults(tree)
        if found:
            raise NotLet(found[0])
        self.tree = tree
        self.flattened = flat(tree)
        self.plan = tuple([line for line in tree if line[0] not in UNPLANNED])
        self.frames = frames_in(self.flattened)
        self.meanings = Meanings(tree)

    def atoms(self, frame):
        """The tuple of the atoms of a frame."""
        found = []
        for policy in policies_of(self.flattened, frame):
            found = merged(found, atoms_of(policy[6]))
        return tuple(found)

    def policies(self, frame):
        """The tuple of the names of a frame's policies."""
        return tuple([policy[1] for policy in policies_of(self.flattened, frame)])

    def written(self, walk):
        """A walk written out."""
        return self.meanings.written(walk)

    def written_cond(self, cond):
        """A condition written out."""
        return self.meanings.written_cond(cond)


def frames_in(tree):
    """The frames of a flat tree, each where it comes first."""
    found = {}
    for policy in policies_in(tree):
        for frame in frames_of(policy):
            found[frame] = True
    return tuple(found)
