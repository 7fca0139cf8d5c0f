"""Where a walk is in a world: pairs of a node or a badge and a place."""

from leaveledger.errors import NoName
from leaveledger.graphs import Graph
from leaveledger.places import Places


class Closure:
    """A walk in a world, from an asker or a group on; raises NoName for other nodes."""

    def __init__(self, book, world, walk, node):
        self.graph = Graph(book, world)
        if not self.graph.leads_on(node):
            raise NoName(node)
        self.places = Places(book, walk)
        self.node = node

    def fewest(self, most):
        """The fewest steps to each pair, in that order; with most, only the pairs with at most so many."""
        return fewest_steps(self.graph, self.places, self.node, most)

    def is_last(self, place):
        """Whether a place is a last one."""
        return place in self.places.last


def fewest_steps(graph, places, node, most):
    """The fewest steps from a node to each pair, in that order; with most, only the pairs with at most so many."""
    found = {(node, 0): 0}
    waiting = [(node, 0)]
    at = 0
    while at < len(waiting):
        pair = waiting[at]
        if found[pair] == most:
            return found
        for after in pairs_after(graph, places, pair):
            if after not in found:
                found[after] = found[pair] + 1
                waiting.append(after)
        at += 1
    return found


def pairs_after(graph, places, pair):
    """The pairs behind a pair."""
    name, place = pair
    found = []
    for letter, end in graph.links_of(name):
        for after in places.ways_by(letter).get(place, []):
            found.append((end, after))
    return found
