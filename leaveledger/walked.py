"""The plain meaning of a walk in a world."""

from leaveledger.errors import NoName
from leaveledger.graphs import Graph
from leaveledger.pairs import Pairs


def walked(book, world, walk, node):
    """The ascending tuple of the ends to which a walk leads from an asker or a group; raises NoName for other nodes."""
    return Terrain(book, world).ends_of(walk, node)


class Terrain:
    """A world in which walks of a book are walked, as often as needed."""

    def __init__(self, book, world):
        self.book = book
        self.world = world
        self.graph = Graph(book, world)
        self.pairs = Pairs(book, self.graph)

    def ends_of(self, walk, node):
        """The ascending tuple of the ends to which a walk leads from a node; raises NoName."""
        if not self.graph.leads_on(node):
            raise NoName(node)
        # A name alone can stand for a table; within an expression all names stand for expressions.
        written = self.book.written(walk) if walk[0] == "named" else walk
        if written[0] == "table":
            return ends_by_table(self.graph, written, node)
        return self.pairs.ends(written, node)


def ends_by_table(graph, table, node):
    """The ascending tuple of the ends to which the moves of a table lead from a node."""
    _, moves, final = table
    afters = {}
    for place, letter, after in moves:
        afters.setdefault((place, letter), []).append(after)
    known = {(node, 0): True}
    waiting = [(node, 0)]
    while waiting:
        name, place = waiting.pop()
        for letter, end in graph.links_of(name):
            for after in afters.get((place, letter), []):
                if (end, after) not in known:
                    known[(end, after)] = True
                    waiting.append((end, after))
    return tuple(sorted([name for name, place in known if place == final]))
