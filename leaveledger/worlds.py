"""Worlds: nodes, links between them, and numbers of nodes."""

from leaveledger.errors import BadWorld, TooMany
from leaveledger.names import is_fresh, is_name, is_worth
from leaveledger.plans import Plan

MOST_NODES = 60
MOST_LINKS = 400


def world_of(book, nodes, links, numbers=()):
    """The world of triples in any order; raises TooMany, then BadWorld for the first triple that breaks a rule."""
    if len(nodes) > MOST_NODES:
        raise TooMany("node")
    if len(links) > MOST_LINKS:
        raise TooMany("link")
    return world_of_any_size(book, nodes, links, numbers)


def world_of_any_size(book, nodes, links, numbers):
    """The same without a limit to how many nodes and links there are."""
    plan = Plan(book.plan)
    nodes_by_name = checked_nodes(plan, nodes)
    links_by_link = checked_links(plan, nodes_by_name, links)
    worths = checked_numbers(plan, nodes_by_name, numbers)
    return (
        tuple(sorted(nodes_by_name.values())),
        tuple(sorted(links_by_link)),
        tuple(sorted([(name, number, worth) for (name, number), worth in worths.items()])),
    )


def is_world(book, world):
    """Whether something is a world of a book."""
    if not is_world_of_any_size(book, world):
        return False
    return len(world[0]) <= MOST_NODES and len(world[1]) <= MOST_LINKS


def is_world_of_any_size(book, world):
    """The same without a limit to how many nodes and links there are."""
    if not isinstance(world, tuple) or len(world) != 3:
        return False
    if not all([isinstance(part, tuple) for part in world]):
        return False
    try:
        return world_of_any_size(book, *world) == world
    except BadWorld:
        return False


def row_of(world, node, tie):
    """The ascending tuple of the ends of a node's links by a tie."""
    return tuple([end for start, by, end in world[1] if start == node and by == tie])


def is_triple(row):
    """Whether something is a tuple of three parts that begins with two strings."""
    if not isinstance(row, tuple) or len(row) != 3:
        return False
    return isinstance(row[0], str) and isinstance(row[1], str)


def checked_nodes(plan, nodes):
    """The nodes by their names, with ascending tags."""
    found = {}
    for node in nodes:
        if not is_node(plan, node) or node[0] in found:
            raise BadWorld(node)
        name, kind, tags = node
        found[name] = (name, kind, tuple(sorted(tags)))
    return found


def is_node(plan, node):
    """Whether something is a node but for the order of its tags."""
    if not is_triple(node) or not isinstance(node[2], tuple):
        return False
    name, kind, tags = node
    if plan.sort_of(name) == "badge" or not is_name(name) and not is_fresh(name):
        return False
    if plan.sort_of(kind) not in ("asker", "group", "thing"):
        return False
    return all([tag in plan.tags_of(kind) for tag in tags]) and len(set(tags)) == len(tags)


def checked_links(plan, nodes_by_name, links):
    """The links, as the keys of a dict."""
    found = {}
    for link in links:
        if not is_link(plan, nodes_by_name, link) or link in found:
            raise BadWorld(link)
        found[link] = True
    return found


def is_link(plan, nodes_by_name, link):
    """Whether something is a link between these nodes and to badges."""
    if not is_triple(link) or not isinstance(link[2], str):
        return False
    name, tie, end = link
    if name not in nodes_by_name:
        return False
    standing = standing_of(plan, nodes_by_name[name])
    if end in nodes_by_name:
        return plan.allows(standing, (tie, *standing_of(plan, nodes_by_name[end])))
    return plan.sort_of(end) == "badge" and plan.allows(standing, (tie, end, ()))


def standing_of(plan, node):
    """The kind of a node and its marks; only a group's tags are marks."""
    _, kind, tags = node
    return (kind, tags if plan.sort_of(kind) == "group" else ())


def checked_numbers(plan, nodes_by_name, numbers):
    """The worth for each node and each number that its kind has, 0 if none is told."""
    worths = {}
    for name, kind, _ in nodes_by_name.values():
        for number in plan.numbers_of(kind):
            worths[(name, number)] = 0
    told = {}
    for row in numbers:
        if not is_triple(row) or row[:2] not in worths or row[:2] in told or not is_worth(row[2]):
            raise BadWorld(row)
        told[row[:2]] = True
        worths[row[:2]] = row[2]
    return worths
