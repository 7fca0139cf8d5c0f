"""From where a walk leads to an end, by a closure that begins at the end."""

from leaveledger.graphs import Graph
from leaveledger.places import Places


def comers(book, world, walk, end):
    """The ascending tuple of the askers and groups from which a path of a walk leads to an end."""
    graph = Graph(book, world)
    places = Places(book, walk)
    links = links_by_end(graph)
    known = {(end, place): True for place in places.last}
    waiting = list(known)
    while waiting:
        name, place = waiting.pop()
        for letter, start in links.get(name, []):
            for before in places_before(places, letter, place):
                if (start, before) not in known:
                    known[(start, before)] = True
                    waiting.append((start, before))
    return tuple(sorted([name for name, place in known if place == 0 and graph.leads_on(name)]))


def links_by_end(graph):
    """For each end the pairs of a letter and a start for each link to it."""
    found = {}
    for start in graph.links:
        for letter, end in graph.links_of(start):
            found.setdefault(end, []).append((letter, start))
    return found


def places_before(places, letter, place):
    """The places from which a letter leads to a place."""
    return [before for before, afters in places.ways_by(letter).items() if place in afters]
