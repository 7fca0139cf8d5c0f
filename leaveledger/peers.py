"""Whether an asker reaches all that a second one reaches, by every walk that there can be."""

from leaveledger.forms import is_ascending, is_ascending_names, is_pair
from leaveledger.graphs import Graph
from leaveledger.trails import trail_to


def peers(book, world, second, first):
    """A table that shows that an asker, first, reaches all that a second one does, or the least word that it misses."""
    graph = Graph(book, world)
    known = {(second, (first,)): True}
    # Each item has the nodes that its word is the first to reach beside its rivals; the words come in their order.
    waiting = [([second], (first,))]
    came = {0: None}
    at = 0
    while at < len(waiting):
        names, rivals = waiting[at]
        for letter, ends, others in shared_steps(graph, names, rivals):
            if graph.leads_on(ends[0]):
                found = put_rows(known, ends, others)
                if found:
                    came[len(waiting)] = (at, letter)
                    waiting.append((found, others))
            elif not is_among(ends, others):
                return ("beyond", (*trail_to(came, at), letter), [end for end in ends if end not in others][0])
        at += 1
    return ("within", tuple(sorted(known)))


def put_rows(known, ends, others):
    """Put the rows of some nodes and their rivals to those that are known; the nodes of the rows that are new."""
    found = [end for end in ends if (end, others) not in known]
    for end in found:
        known[(end, others)] = True
    return found


def judge_peers(book, world, second, first, table):
    """Whether a table shows that an asker, first, reaches all that a second one does."""
    graph = Graph(book, world)
    if not isinstance(table, tuple) or not all([is_row(graph, row) for row in table]) or not is_ascending(table):
        return False
    known = {row: True for row in table}
    return (second, (first,)) in known and all([is_held(graph, known, name, rivals) for name, rivals in table])


def is_held(graph, known, name, rivals):
    """Whether what leads on from a node leads on from its rivals, too, or to rows that are known."""
    for _, ends, others in shared_steps(graph, [name], rivals):
        if graph.leads_on(ends[0]):
            if not all([(end, others) in known for end in ends]):
                return False
        elif not is_among(ends, others):
            return False
    return True


def is_among(ends, others):
    """Whether all of the first ends are among the second ones."""
    return all([end in others for end in ends])


def is_row(graph, row):
    """Whether something is a pair of a node and an ascending tuple of different nodes."""
    if not is_pair(row) or not isinstance(row[0], str) or not is_ascending_names(row[1]):
        return False
    return all([name in graph.standings for name in (row[0], *row[1])])


def shared_steps(graph, names, rivals):
    """For each letter of links from the first nodes, ascending, its ends from them and those from the second ones."""
    ends = ends_by_letter(graph, names)
    others = ends_by_letter(graph, rivals)
    return [(letter, ends[letter], others.get(letter, ())) for letter in sorted(ends)]


def ends_by_letter(graph, names):
    """For each letter of links from some nodes the ascending tuple of its ends."""
    found = {}
    for name in names:
        for letter, end in graph.links_of(name):
            found.setdefault(letter, {})[end] = True
    return {letter: tuple(sorted(ends)) for letter, ends in found.items()}
