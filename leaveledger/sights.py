"""Sights, which tell a part of a world, and the worlds and asks that complete them."""

from leaveledger.asks import check_ask
from leaveledger.errors import BadAsk
from leaveledger.forms import is_ascending, is_name_pair, is_pair
from leaveledger.names import is_worth
from leaveledger.plans import Plan
from leaveledger.worlds import is_link, is_node, is_triple, is_world_of_any_size, standing_of


def is_sight(book, sight):
    """Whether something is a sight of a book."""
    if not isinstance(sight, tuple) or len(sight) != 5 or not all([isinstance(part, tuple) for part in sight]):
        return False
    plan = Plan(book.plan)
    nodes, links, closed, tags, numbers = sight
    if not all([is_told_node(plan, node) for node in nodes]):
        return False
    nodes_by_name = {node[0]: node for node in nodes}
    if not all([is_link(plan, nodes_by_name, link) for link in links]):
        return False
    kinds = {name: kind for name, kind, _ in nodes}
    if not all([is_row_name(plan, kinds, pair) for pair in closed]):
        return False
    if not all([is_told_tag(plan, kinds, row) for row in tags]):
        return False
    if not all([is_told_number(plan, kinds, row) for row in numbers]):
        return False
    # A node, a tag of a node and a number of a node are told once, whatever is told of them.
    told_once = ([node[0] for node in nodes], links, closed, [row[:2] for row in tags], [row[:2] for row in numbers])
    return all([is_ascending(rows) for rows in told_once])


def is_told_node(plan, node):
    """Whether something is a node with ascending marks of a group as tags, or with none."""
    return is_node(plan, node) and standing_of(plan, node)[1] == node[2] and is_ascending(node[2])


def is_row_name(plan, kinds, pair):
    """Whether something is a pair of a node and a tie that can lead from it."""
    return is_name_pair(pair) and pair[0] in kinds and plan.has_row(kinds[pair[0]], pair[1])


def is_told_tag(plan, kinds, row):
    """Whether something tells whether an asker or a thing has a tag that its kind can have."""
    if not is_triple(row) or row[0] not in kinds or not isinstance(row[2], bool):
        return False
    kind = kinds[row[0]]
    return plan.sort_of(kind) != "group" and row[1] in plan.tags_of(kind)


def is_told_number(plan, kinds, row):
    """Whether something tells a number that a node's kind has."""
    return is_triple(row) and row[0] in kinds and row[1] in plan.numbers_of(kinds[row[0]]) and is_worth(row[2])


def sight_of(book, world):
    """The sight in which all of a world is told."""
    plan = Plan(book.plan)
    nodes, links, numbers = world
    closed = []
    tags = []
    for name, kind, own in nodes:
        closed.extend([(name, tie) for tie in plan.ties if plan.has_row(kind, tie)])
        if plan.sort_of(kind) != "group":
            tags.extend([(name, tag, tag in own) for tag in plan.tags_of(kind)])
    told = tuple([(node[0], *standing_of(plan, node)) for node in nodes])
    return (told, links, tuple(sorted(closed)), tuple(sorted(tags)), numbers)


def bare(book, frame):
    """The sight and the partial ask in which nothing is told but an asker and a thing of a frame, and its action."""
    plan = Plan(book.plan)
    asker, action, thing = frame
    flags = tuple([None for _ in plan.listed("flag")])
    worths = tuple([None for _ in plan.listed("asked")])
    sight = ((("zz0", asker, ()), ("zz1", thing, ())), (), (), (), ())
    return (sight, ("zz0", action, "zz1", flags, worths, None))


def kinds_in(sight):
    """The kind of each node of a sight by its name."""
    return {name: kind for name, kind, _ in sight[0]}


def frame_of(sight, ask):
    """The frame of an ask whose asker and thing are nodes of a sight."""
    kinds = kinds_in(sight)
    return (kinds[ask[0]], ask[1], kinds[ask[2]])


def judge_completion(book, sight, ask, pair):
    """Whether something is a pair of a world and an ask of which a sight and a partial ask tell a part."""
    if not is_pair(pair) or not is_world_of_any_size(book, pair[0]):
        return False
    world, full = pair
    plan = Plan(book.plan)
    try:
        check_ask(plan, {name: kind for name, kind, _ in world[0]}, full)
    except BadAsk:
        return False
    return is_full_ask(ask, full) and is_full_world(plan, sight, world)


def is_full_ask(ask, full):
    """Whether an ask has what a partial one tells."""
    told = (*ask[3], *ask[4], ask[5])
    found = (*full[3], *full[4], full[5])
    return ask[:3] == full[:3] and all([part is None or part == other for part, other in zip(told, found)])


def is_full_world(plan, sight, world):
    """Whether a world has what a sight tells."""
    nodes, links, closed, tags, numbers = sight
    standings = {node[0]: standing_of(plan, node) for node in world[0]}
    if not all([standings.get(name) == (kind, marks) for name, kind, marks in nodes]):
        return False
    told_links = {link: True for link in links}
    told_rows = {row: True for row in closed}
    if len([link for link in world[1] if link in told_links]) < len(links):
        return False
    if any([link[:2] in told_rows and link not in told_links for link in world[1]]):
        return False
    tags_by_name = {name: own for name, _, own in world[0]}
    worths = {row: True for row in world[2]}
    if not all([(tag in tags_by_name[name]) == truth for name, tag, truth in tags]):
        return False
    return all([row in worths for row in numbers])
