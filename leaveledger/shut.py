"""Papers that show that no path of a walk leads from a node to an end."""

from leaveledger.closures import Closure
from leaveledger.forms import is_ascending, is_pair
from leaveledger.graphs import Graph
from leaveledger.places import Places, is_place_set


def shut(book, world, walk, node, end):
    """A paper that shows that no path of a walk leads there; None if one does; raises NoName."""
    closure = Closure(book, world, walk, node)
    found = {}
    for name, place in closure.fewest(None):
        if name == end and closure.is_last(place):
            return None
        if name in closure.graph.standings:
            found.setdefault(name, []).append(place)
    return tuple([(name, tuple(sorted(found[name]))) for name in sorted(found)])


def judge_shut(book, world, walk, node, end, paper):
    """Whether a paper shows that no path of a walk leads from a node to an end."""
    graph = Graph(book, world)
    places = Places(book, walk)
    if not is_paper(graph, places, paper):
        return False
    sets = {name: found for name, found in paper}
    if 0 not in sets.get(node, ()) or node == end and 0 in places.last:
        return False
    return all([is_kept(graph, places, sets, name, end) for name in sets])


def is_paper(graph, places, paper):
    """Whether something is an ascending tuple of pairs of different nodes and sets of places that are not empty."""
    if not isinstance(paper, tuple) or not all([is_paper_row(graph, places, row) for row in paper]):
        return False
    return is_ascending([name for name, _ in paper])


def is_paper_row(graph, places, row):
    """Whether something is a pair of a node and a set of places that is not empty."""
    if not is_pair(row) or not isinstance(row[0], str) or row[0] not in graph.standings:
        return False
    return row[1] != () and is_place_set(row[1], places.size)


def is_kept(graph, places, sets, name, end):
    """Whether the links from a node lead only to places that the paper has, and to no last one at the end."""
    for letter, after in graph.links_of(name):
        found = places(sets[name], letter)
        if after == end and any([place in places.last for place in found]):
            return False
        if after in graph.standings and not all([place in sets.get(after, ()) for place in found]):
            return False
    return True
