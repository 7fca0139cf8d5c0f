"""Deeds, which change worlds."""

from leaveledger.errors import BadDeed, BadWorld
from leaveledger.names import is_worth
from leaveledger.plans import Plan
from leaveledger.worlds import MOST_LINKS, MOST_NODES, checked_numbers, is_link, is_node

LENGTHS = {"node": 5, "drop": 2, "tag": 4, "number": 4, "link": 4, "cut": 4}


def done(book, world, deed):
    """The world that a deed makes of a world; raises BadDeed if it cannot be done."""
    if not is_deed(deed):
        raise BadDeed()
    change = CHANGES[deed[0]]
    return change(Plan(book.plan), world, deed)


def is_deed(deed):
    """Whether something begins with the word of a deed and has as many parts as such a one."""
    return len(deed) == LENGTHS[deed[0]] if word_of(deed) in LENGTHS else False


def word_of(deed):
    """The word with which something begins that may be a deed; an empty string for what is none."""
    if not isinstance(deed, tuple) or len(deed) == 0 or not isinstance(deed[0], str):
        return ""
    return deed[0]


def node_of(world, name):
    """The node of a name."""
    for node in world[0]:
        if node[0] == name:
            return node
    raise BadDeed()


def put_node(plan, world, deed):
    """The world with a new node."""
    nodes, links, numbers = world
    _, name, kind, tags, pairs = deed
    if len(nodes) >= MOST_NODES or not is_node(plan, (name, kind, tags)):
        raise BadDeed()
    if any([node[0] == name for node in nodes]):
        raise BadDeed()
    node = (name, kind, tuple(sorted(tags)))
    return (tuple(sorted([*nodes, node])), links, tuple(sorted([*numbers, *numbers_of_new(plan, node, pairs)])))


def numbers_of_new(plan, node, pairs):
    """The triples of the numbers of a new node, of which some are told by pairs."""
    if not isinstance(pairs, tuple) or not all([isinstance(pair, tuple) for pair in pairs]):
        raise BadDeed()
    try:
        worths = checked_numbers(plan, {node[0]: node}, [(node[0], *pair) for pair in pairs])
    except BadWorld:
        raise BadDeed()
    return [(name, number, worth) for (name, number), worth in worths.items()]


def drop_node(plan, world, deed):
    """The world without a node."""
    gone = node_of(world, deed[1])
    name = gone[0]
    nodes = tuple([node for node in world[0] if node != gone])
    links = tuple([link for link in world[1] if name not in (link[0], link[2])])
    numbers = tuple([row for row in world[2] if row[0] != name])
    return (nodes, links, numbers)


def give_tag(plan, world, deed):
    """The world in which an asker or a thing has a tag, or does not have it."""
    _, name, tag, truth = deed
    node = node_of(world, name)
    kind = node[1]
    if plan.sort_of(kind) == "group" or tag not in plan.tags_of(kind) or not isinstance(truth, bool):
        raise BadDeed()
    others = [other for other in node[2] if other != tag]
    changed = (name, kind, tuple(sorted([*others, tag] if truth else others)))
    nodes = tuple([changed if other == node else other for other in world[0]])
    return (nodes, world[1], world[2])


def set_number(plan, world, deed):
    """The world in which a number of a node has a worth."""
    _, name, number, worth = deed
    node = node_of(world, name)
    if number not in plan.numbers_of(node[1]) or not is_worth(worth):
        raise BadDeed()
    numbers = [(name, number, worth) if row[:2] == (name, number) else row for row in world[2]]
    return (world[0], world[1], tuple(numbers))


def put_link(plan, world, deed):
    """The world with one link more."""
    nodes, links, numbers = world
    link = deed[1:]
    if len(links) >= MOST_LINKS or link in links or not is_link(plan, {node[0]: node for node in nodes}, link):
        raise BadDeed()
    return (nodes, tuple(sorted([*links, link])), numbers)


def cut_link(plan, world, deed):
    """The world without a link."""
    link = deed[1:]
    if link not in world[1]:
        raise BadDeed()
    return (world[0], tuple([other for other in world[1] if other != link]), world[2])


CHANGES = {
    "node": put_node, "drop": drop_node, "tag": give_tag, "number": set_number, "link": put_link, "cut": cut_link,
}
