"""What judges take, told once more and as simply as can be, to compare the program with."""

import itertools

from leaveledger.letters import letters
from leaveledger.places import Places
from tests.plain import Plain


def is_row(thing, *kinds):
    """Whether something is a tuple of parts of these types."""
    return type(thing) is tuple and len(thing) == len(kinds) and all(type(part) is kind for part, kind in zip(thing, kinds))


def ascends(things):
    return list(things) == sorted(set(things))


def is_set_of_places(thing, size):
    return type(thing) is tuple and all(type(place) is int and 0 <= place <= size for place in thing) and ascends(thing)


def kinds_of(book, word):
    return [name for line in book.plan if line[0] == word for name in line[1]]


def tags_of(book, kind):
    return [line[1] for line in book.plan if line[0] == "tag" and kind in line[2]]


def numbers_of(book, kind):
    return [line[1] for line in book.plan if line[0] == "number" and kind in line[2]]


def standings(book):
    found = [(kind, ()) for kind in kinds_of(book, "asker")]
    for kind in kinds_of(book, "group"):
        tags = sorted(tags_of(book, kind))
        found += [(kind, marks) for many in range(len(tags) + 1) for marks in itertools.combinations(tags, many)]
    return found


def takes_within(book, kind, walk, walks, end, table):
    company = [Places(book, other) for other in (walk, *walks)]
    if type(table) is not tuple:
        return False
    for row in table:
        if not (type(row) is tuple and len(row) == 4 and row[:2] in standings(book) and type(row[3]) is tuple):
            return False
        sets = (row[2], *row[3])
        if len(sets) != len(company) or not all(is_set_of_places(part, one.size) for part, one in zip(sets, company)):
            return False
    if not ascends(table) or (kind, (), (0,), ((0,),) * len(walks)) not in table:
        return False
    for row in table:
        for letter in letters(book, row[:2]):
            sets = [one(part, letter) for part, one in zip((row[2], *row[3]), company)]
            is_group = letter[1] in kinds_of(book, "group")
            if is_group and sets[0] != () and (*letter[1:], sets[0], tuple(sets[1:])) not in table:
                return False
            ended = [bool(set(part) & set(one.last)) for part, one in zip(sets, company)]
            if letter[1] == end and ended[0] and not any(ended[1:]):
                return False
    return True


def takes_shut(book, world, walk, node, end, paper):
    places = Places(book, walk)
    names = [name for name, _, _ in world[0]]
    if type(paper) is not tuple or not all(is_row(row, str, tuple) for row in paper):
        return False
    if not all(row[0] in names and row[1] and is_set_of_places(row[1], places.size) for row in paper):
        return False
    told = dict(paper)
    if not ascends(paper) or len(told) != len(paper) or 0 not in told.get(node, ()):
        return False
    if node == end and 0 in places.last:
        return False
    for start, letter, goal in Plain(book.tree).linked(world):
        found = set(places(told.get(start, ()), letter))
        if goal in names and not found <= set(told.get(goal, ())) or goal == end and found & set(places.last):
            return False
    return True


def takes_map(book, world, second, pairs):
    if type(pairs) is not tuple or not all(is_row(pair, str, str) for pair in pairs) or not ascends(pairs):
        return False
    nodes, images = [{node[0]: node for node in part[0]} for part in (world, second)]
    if [name for name, _ in pairs] != sorted(nodes) or not all(image in images for _, image in pairs):
        return False
    for name, image in pairs:
        _, kind, tags = nodes[name]
        if images[image][1] != kind or kind in kinds_of(book, "group") and images[image][2] != tags:
            return False
    told = dict(pairs)
    return all((told[start], tie, told[end] if end in nodes else end) in second[1] for start, tie, end in world[1])


def takes_peers(book, world, second, first, table):
    names = {name for name, _, _ in world[0]}
    groups = {name for name, kind, _ in world[0] if kind in kinds_of(book, "group")}
    linked = Plain(book.tree).linked(world)
    if type(table) is not tuple or not all(is_row(row, str, tuple) for row in table):
        return False
    for name, rivals in table:
        if not all(type(rival) is str for rival in rivals) or not ascends(rivals) or not {name, *rivals} <= names:
            return False
    if not ascends(table) or (second, (first,)) not in table:
        return False
    for name, rivals in table:
        for _, letter, end in [link for link in linked if link[0] == name]:
            ends = sorted({goal for start, sign, goal in linked if start in rivals and sign == letter})
            if end in groups and (end, tuple(ends)) not in table or end not in groups and end not in ends:
                return False
    return True


def takes_ring(bounds, ring):
    if type(ring) is not tuple or not ring or not all(is_row(bound, str, str, int) for bound in ring):
        return False
    terms = {term for bound in bounds for term in bound[:2]} - {"0"}
    known = {*bounds, *[("0", term, 0) for term in terms], *[(term, "0", 9999) for term in terms]}
    closes = all(ring[at - 1][1] == ring[at][0] for at in range(len(ring)))
    return known.issuperset(ring) and closes and sum(bound[2] for bound in ring) < 0


def is_sight(book, sight):
    if not is_row(sight, tuple, tuple, tuple, tuple, tuple):
        return False
    nodes, links, closed, tags, numbers = sight
    groups, askers, things = [kinds_of(book, word) for word in ("group", "asker", "thing")]
    ties = {line[1]: (line[2], line[3]) for line in book.plan if line[0] == "tie"}
    for node in nodes:
        if not is_row(node, str, str, tuple) or node[0] in kinds_of(book, "badge") or not named(node[0]):
            return False
        if (node[1], node[2]) not in standings(book) and not (node[1] in things and node[2] == ()):
            return False
    kinds = {name: kind for name, kind, _ in nodes}
    standing = {name: (kind, tags) for name, kind, tags in nodes}
    for link in links:
        if not is_row(link, str, str, str) or link[0] not in kinds:
            return False
        if link[2] not in kinds and link[2] not in kinds_of(book, "badge"):
            return False
        if (link[1], *standing.get(link[2], (link[2], ()))) not in letters(book, standing[link[0]]):
            return False
    for pair in closed:
        if not is_row(pair, str, str) or pair[0] not in kinds or kinds[pair[0]] not in ties.get(pair[1], ((), ()))[0]:
            return False
    for row in tags:
        if not is_row(row, str, str, bool) or row[0] not in kinds or kinds[row[0]] in groups:
            return False
        if row[1] not in tags_of(book, kinds[row[0]]):
            return False
    for row in numbers:
        if not is_row(row, str, str, int) or row[0] not in kinds or row[1] not in numbers_of(book, kinds[row[0]]):
            return False
        if not 0 <= row[2] <= 9999:
            return False
    told = [[node[0] for node in nodes], links, closed, [row[:2] for row in tags], [row[:2] for row in numbers]]
    return all(ascends(part) for part in sight) and all(len(set(part)) == len(part) for part in told)


def named(name):
    """Whether a string is a name or a fresh name."""
    words = ("asker group thing badge tag number flag asked action duty tie never walk when role gate let bar on from to by is "
             "may rank due and or not always now ask any table final node rule").split()
    if name in [f"zz{at}" for at in range(1000)]:
        return True
    signs = all(sign in "abcdefghijklmnopqrstuvwxyz0123456789" for sign in name)
    return signs and 1 <= len(name) <= 8 and not name[0].isdigit() and name[:2] != "zz" and name not in words


def completes(book, sight, ask, world, full):
    """Whether a world and an ask that have their forms complete a sight and a partial ask."""
    nodes = {node[0]: node for node in world[0]}
    for name, kind, marks in sight[0]:
        if name not in nodes or nodes[name][1] != kind or kind in kinds_of(book, "group") and nodes[name][2] != marks:
            return False
    if not set(sight[1]) <= set(world[1]):
        return False
    if any((start, tie) in sight[2] and (start, tie, end) not in sight[1] for start, tie, end in world[1]):
        return False
    if any((tag in nodes[name][2]) is not truth for name, tag, truth in sight[3]) or not set(sight[4]) <= set(world[2]):
        return False
    told = [(ask[part], full[part]) for part in (0, 1, 2, 5)] + list(zip(ask[3], full[3])) + list(zip(ask[4], full[4]))
    return all(part is None or part == other for part, other in told)
