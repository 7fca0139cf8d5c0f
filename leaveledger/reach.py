"""The ends to which a walk leads, by a closure over nodes and places."""

from leaveledger.closures import Closure


def reached(book, world, walk, node):
    """The ascending tuple of the ends to which a walk leads from a node; raises NoName."""
    return tuple([end for end, _ in steps_to(book, world, walk, node)])


def steps_to(book, world, walk, node, *, most=None):
    """The pairs of an end, ascending, and the fewest steps to it, with most at most so many; raises NoName."""
    closure = Closure(book, world, walk, node)
    found = {}
    for (name, place), steps in closure.fewest(most).items():
        # The pairs come in the order of their steps, so the first ones of a name have the fewest.
        if closure.is_last(place) and name not in found:
            found[name] = steps
    return tuple(sorted(found.items()))
