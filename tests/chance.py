"""Trees, walks and worlds made by chance, always the same ones for the same seed."""

from leaveledger.errors import BadWorld
from leaveledger.letters import letters
from leaveledger.trees import is_tree
from leaveledger.worlds import world_of

NAMES = ("a", "b", "c1", "in", "keeps", "gold", "abcdefgh", "x9")
TERMS = ("now", "0", "asker.level", "thing.level", "ask.amount")


def some(chance, most, least=0, names=NAMES):
    """A tuple of different names."""
    return tuple(chance.sample(names, chance.randint(least, most)))


def tests(chance, most=3):
    return tuple((name, chance.random() < 0.5) for name in some(chance, most))


def expression(chance, deep):
    """An expression that is nested at most so deep."""
    if deep == 1 or chance.random() < 0.2:
        if chance.random() < 0.3:
            return ("named", chance.choice(NAMES))
        return ("step", chance.choice((*NAMES, "any")), tests(chance))
    word = chance.choice(("then", "then", "or", "or", "star", "plus", "maybe", "upto"))
    first = expression(chance, deep - 1)
    if word in ("then", "or"):
        return (word, first, expression(chance, deep - 1))
    return (word, first, chance.randint(1, 4)) if word == "upto" else (word, first)


def table(chance):
    moves = []
    for _ in range(chance.randint(0, 6)):
        letter = (chance.choice(NAMES), chance.choice(NAMES), tuple(sorted(some(chance, 3))))
        moves.append((chance.randint(0, 39), letter, chance.randint(0, 39)))
    return ("table", tuple(moves), chance.choice((None, 0, 39)))


def cond(chance, deep):
    """A condition that is nested at most so deep."""
    name = chance.choice(NAMES)
    if deep == 1 or chance.random() < 0.2:
        gap = chance.choice((0, 1, -1, 9999, -9999))
        return chance.choice((
            ("always",), ("flag", name), ("named", name), ("tag", "asker", name), ("tag", "thing", name),
            ("walk", name, "thing"), ("walk", name, "b"), ("atmost", chance.choice(TERMS), chance.choice(TERMS), gap),
        ))
    word = chance.choice(("not", "and", "or"))
    if word == "not":
        return (word, cond(chance, deep - 1))
    return (word, cond(chance, deep - 1), cond(chance, deep - 1))


def line(chance, deep):
    """A line of any kind."""
    name = chance.choice(NAMES)
    word = chance.choice(("plain", "on", "tie", "never", "walk", "walk", "when", "when", "gate", "let", "bar"))
    if word == "plain":
        words = ("asker", "group", "thing", "badge", "flag", "asked", "action", "duty")
        return (chance.choice(words), some(chance, 8, 1))
    if word == "on":
        return (chance.choice(("tag", "number", "role")), name, some(chance, 8, 1))
    if word == "tie":
        return ("tie", name, some(chance, 8, 1), some(chance, 8, 1))
    if word == "never":
        return ("never", name, tests(chance), tests(chance))
    if word == "walk":
        return ("walk", name, table(chance) if chance.random() < 0.2 else expression(chance, deep))
    if word == "when":
        return ("when", name, cond(chance, deep))
    if word == "gate":
        return ("gate", chance.choice(("node", "tag", "rule", name)), name, name)
    actions = some(chance, 8, 1, (*NAMES, *["@" + other for other in NAMES]))
    duties = some(chance, 4) if word == "let" else ()
    return (word, name, chance.randint(0, 99), some(chance, 8, 1), actions, some(chance, 8, 1), cond(chance, deep), duties)


def tree(chance, deep):
    return tuple(line(chance, deep) for _ in range(chance.randint(0, 8)))


def fitting_walk(chance, deep, ties, tags, walks=()):
    """An expression with these ties and tags in steps, that is nested at most so deep."""
    if deep == 1 or chance.random() < 0.2:
        if walks and chance.random() < 0.2:
            return ("named", chance.choice(walks))
        picked = chance.sample(tags, chance.choice((0, 0, 0, 1, min(2, len(tags)))))
        return ("step", chance.choice((*ties, "any")), tuple((tag, chance.random() < 0.5) for tag in picked))
    word = chance.choice(("then", "then", "or", "or", "star", "plus", "maybe", "upto"))
    first = fitting_walk(chance, deep - 1, ties, tags, walks)
    if word in ("then", "or"):
        return (word, first, fitting_walk(chance, deep - 1, ties, tags, walks))
    return (word, first, chance.randint(1, 3)) if word == "upto" else (word, first)


def fitting_table(chance, signs, places, moves):
    """A table with so many moves by these letters between the first places."""
    rows = [(chance.randrange(places), chance.choice(signs), chance.randrange(places)) for _ in range(moves)]
    return ("table", tuple(rows), chance.choice((None, *range(places), *range(places))))


def small_walk(chance, book):
    """A walk for a clerk of the small book, now and then a table."""
    if chance.random() < 0.3:
        signs = [letter for standing in (("clerk", ()), ("box", ())) for letter in letters(book, standing)]
        return fitting_table(chance, signs, 3, chance.randint(2, 9))
    return fitting_walk(chance, 4, ("in", "keeps"), ("gold",), ("deep",))


def town_walk(chance, book):
    """A walk of the town's book, now and then a table."""
    if chance.random() < 0.25:
        standings = (("clerk", ()), ("guest", ()), ("team", ()), ("team", ("gold",)), ("team", ("old",)), ("box", ()), ("box", ("old",)))
        return fitting_table(chance, [letter for standing in standings for letter in letters(book, standing)], 4, 30)
    return fitting_walk(chance, 5, ("in", "tops", "keeps"), ("gold", "old"), ("sees", "gilt", "far", "boxed"))


def world(chance, book, nodes, links):
    """A world with these nodes, and of so many links tried those that it can have."""
    ties = [line[1] for line in book.plan if line[0] == "tie"]
    names = [row[0] for row in nodes]
    ends = names + [name for line in book.plan if line[0] == "badge" for name in line[1]]
    numbers = [row[:2] + (chance.randint(0, 9),) for row in world_of(book, nodes, ())[2]]
    found = {}
    for _ in range(links):
        link = (chance.choice(names), chance.choice(ties), chance.choice(ends))
        try:
            world_of(book, nodes, [link])
            found[link] = True
        except BadWorld:
            pass
    return world_of(book, nodes, list(found), numbers)


def strings_in(part):
    """All strings in a nested tuple, from left to right."""
    if isinstance(part, tuple):
        return [found for inner in part for found in strings_in(inner)]
    return [part] if isinstance(part, str) else []


def with_string(part, at, other):
    """A nested tuple in which the string of this number is another one."""
    if isinstance(part, str):
        return other if at == 0 else part
    if not isinstance(part, tuple):
        return part
    found = []
    for inner in part:
        found.append(with_string(inner, at, other))
        at -= len(strings_in(inner))
    return tuple(found)


def disturbed(chance, tree, times):
    """A tree in which so many times lines change places, are left out or put twice, or a name is another one."""
    lines = list(tree)
    for _ in range(times):
        first, second = chance.randrange(len(lines)), chance.randrange(len(lines))
        turn = chance.random()
        if turn < 0.2:
            lines[first], lines[second] = lines[second], lines[first]
        elif turn < 0.3 and len(lines) > 1:
            del lines[first]
        elif turn < 0.4:
            lines.insert(second, lines[first])
        else:
            line = with_string(lines[first], chance.randrange(len(strings_in(lines[first]))), chance.choice(strings_in(tree)))
            lines[first] = line if is_tree((line,)) else lines[first]
    return tuple(lines)


def fitting_cond(chance, deep, atoms, names):
    """A condition of these atoms and names of conditions, that is nested at most so deep."""
    if deep == 1 or chance.random() < 0.15:
        return ("named", chance.choice(names)) if names and chance.random() < 0.4 else chance.choice(atoms)
    word = chance.choice(("and", "or", "not", "and", "or"))
    return (word, *[fitting_cond(chance, deep - 1, atoms, names) for _ in range(1 if word == "not" else 2)])


def in_words(chance, part, words, most):
    """A walk or a condition within at most so many words that have one part."""
    for _ in range(chance.randint(0, most)):
        word = chance.choice(words)
        part = (word, part, chance.randint(1, 4)) if word == "upto" else (word, part)
    return part


def with_lines(chance, plan, ties, tags, walk, atoms):
    """A plan's lines, and behind them walks, conditions and policies, some of them long, some of a name twice."""
    lines, walks, conds = list(plan), [walk], []
    for _ in range(chance.randint(2, 12)):
        name = f"n{chance.randint(0, 20)}"
        word = chance.choice(("walk", "when", "let", "bar"))
        if word == "walk":
            part = fitting_walk(chance, chance.randint(1, 4), ties, tags, walks[-3:])
            lines.append((word, name, in_words(chance, part, ("star", "plus", "maybe", "upto"), 6)))
            walks.append(name)
            atoms = (*atoms, ("walk", name, "thing"))
        elif word == "when":
            lines.append((word, name, in_words(chance, fitting_cond(chance, chance.randint(1, 4), atoms, conds[-3:]), ("not",), 7)))
            conds.append(name)
        else:
            part = fitting_cond(chance, chance.randint(1, 5), atoms, conds[-3:])
            kinds, actions = chance.choice((("clerk",), ("clerk", "guest"))), chance.choice((("view",), ("copy", "view")))
            lines.append((word, name, 5, kinds, actions, ("paper",), in_words(chance, part, ("not",), 4), ()))
    return tuple(lines)


def deed(chance, book, world):
    """A deed of any kind, that can be done more often than not."""
    ties = [line[1] for line in book.plan if line[0] == "tie"]
    badges = [name for line in book.plan if line[0] == "badge" for name in line[1]]
    names = [node[0] for node in world[0]] or ["none"]
    word = chance.choice(("link", "link", "link", "cut", "cut", "tag", "number", "node", "drop"))
    if word == "link":
        return (word, chance.choice(names), chance.choice(ties), chance.choice(names + badges))
    if word == "cut":
        return (word, *(chance.choice(world[1]) if world[1] else ("none", "none", "none")))
    if word == "tag":
        return (word, chance.choice(names), chance.choice([line[1] for line in book.plan if line[0] == "tag"]), chance.random() < 0.5)
    if word == "number":
        numbers = [line[1] for line in book.plan if line[0] == "number"]
        return (word, chance.choice(names), chance.choice(numbers or ["none"]), chance.randint(0, 9))
    if word == "drop":
        return (word, chance.choice(names))
    kinds = [name for line in book.plan if line[0] in ("asker", "group", "thing") for name in line[1]]
    return (word, chance.choice(("ana", "memo", "red", "zz7", "zz8")), chance.choice(kinds), chance.choice(((), ("gold",), ("old",))), ())
