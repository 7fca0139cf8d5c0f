"""The shortest path of a walk from a node to an end."""

from leaveledger.closures import Closure
from leaveledger.trails import trail_to


def shortest(book, world, walk, node, end):
    """The path with the fewest steps, among these the first one; None if no path leads there; raises NoName."""
    closure = Closure(book, world, walk, node)
    known = {(node, 0): True}
    # Each item is a node and those places that are met first by the item's path; the paths come in their order.
    waiting = [(node, [0])]
    came = {0: None}
    at = 0
    while at < len(waiting):
        name, places = waiting[at]
        if name == end and any([closure.is_last(place) for place in places]):
            return trail_to(came, at)
        for tie, after, found in steps_from(closure, name, places, known):
            came[len(waiting)] = (at, (tie, after))
            waiting.append((after, found))
        at += 1
    return None


def steps_from(closure, name, places, known):
    """For each link from a node, ascending, its tie, its end and the places to which it leads first."""
    steps = []
    for letter, after in closure.graph.links_of(name):
        ways = closure.places.ways_by(letter)
        found = []
        for place in [other for before in places for other in ways.get(before, [])]:
            if (after, place) not in known:
                known[(after, place)] = True
                found.append(place)
        if found:
            steps.append((letter[0], after, found))
    return steps
