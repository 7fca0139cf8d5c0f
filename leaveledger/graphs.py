"""The nodes and links of a world, as walks go along them."""

from leaveledger.plans import Plan
from leaveledger.worlds import standing_of


class Graph:
    """Where the nodes of a world stand, and their links with the letters of these."""

    def __init__(self, book, world):
        plan = Plan(book.plan)
        self.standings = {}
        self.starts = {}
        self.links = {}
        for node in world[0]:
            self.standings[node[0]] = standing_of(plan, node)
            if plan.sort_of(node[1]) in ("asker", "group"):
                self.starts[node[0]] = True
        for start, tie, end in world[1]:
            # What is no node is a badge, and a letter to a badge has no marks.
            kind, marks = self.standings.get(end, (end, ()))
            self.links.setdefault(start, []).append(((tie, kind, marks), end))

    def leads_on(self, name):
        """Whether a name is that of an asker or a group."""
        return name in self.starts

    def links_of(self, name):
        """The pairs of a letter and an end for each link from a node."""
        return self.links.get(name, [])
