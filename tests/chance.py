"""Trees made by chance, always the same ones for the same seed."""

NAMES = ("a", "b", "c1", "in", "keeps", "gold", "abcdefgh", "x9")
TERMS = ("now", "0", "asker.level", "thing.level", "ask.amount")


def some(chance, most, least=0, names=NAMES):
    """A tuple of different names."""
    return tuple(chance.sample(names, chance.randint(least, most)))


def tests(chance, most=3):
    return tuple((name, chance.random() < 0.5) for name in some(chance, most))


def expression(chance, deep):
    """An expression that is nested at most so deep."""
    if deep == 1 or chance.random() < 0.2:
        if chance.random() < 0.3:
            return ("named", chance.choice(NAMES))
        return ("step", chance.choice((*NAMES, "any")), tests(chance))
    word = chance.choice(("then", "then", "or", "or", "star", "plus", "maybe", "upto"))
    first = expression(chance, deep - 1)
    if word in ("then", "or"):
        return (word, first, expression(chance, deep - 1))
    return (word, first, chance.randint(1, 4)) if word == "upto" else (word, first)


def table(chance):
    moves = []
    for _ in range(chance.randint(0, 6)):
        letter = (chance.choice(NAMES), chance.choice(NAMES), tuple(sorted(some(chance, 3))))
        moves.append((chance.randint(0, 39), letter, chance.randint(0, 39)))
    return ("table", tuple(moves), chance.choice((None, 0, 39)))


def cond(chance, deep):
    """A condition that is nested at most so deep."""
    name = chance.choice(NAMES)
    if deep == 1 or chance.random() < 0.2:
        gap = chance.choice((0, 1, -1, 9999, -9999))
        return chance.choice((
            ("always",), ("flag", name), ("named", name), ("tag", "asker", name), ("tag", "thing", name),
            ("walk", name, "thing"), ("walk", name, "b"), ("atmost", chance.choice(TERMS), chance.choice(TERMS), gap),
        ))
    word = chance.choice(("not", "and", "or"))
    if word == "not":
        return (word, cond(chance, deep - 1))
    return (word, cond(chance, deep - 1), cond(chance, deep - 1))


def line(chance, deep):
    """A line of any kind."""
    name = chance.choice(NAMES)
    word = chance.choice(("plain", "on", "tie", "never", "walk", "walk", "when", "when", "gate", "let", "bar"))
    if word == "plain":
        words = ("asker", "group", "thing", "badge", "flag", "asked", "action", "duty")
        return (chance.choice(words), some(chance, 8, 1))
    if word == "on":
        return (chance.choice(("tag", "number", "role")), name, some(chance, 8, 1))
    if word == "tie":
        return ("tie", name, some(chance, 8, 1), some(chance, 8, 1))
    if word == "never":
        return ("never", name, tests(chance), tests(chance))
    if word == "walk":
        return ("walk", name, table(chance) if chance.random() < 0.2 else expression(chance, deep))
    if word == "when":
        return ("when", name, cond(chance, deep))
    if word == "gate":
        return ("gate", chance.choice(("node", "tag", "rule", name)), name, name)
    actions = some(chance, 8, 1, (*NAMES, *["@" + other for other in NAMES]))
    duties = some(chance, 4) if word == "let" else ()
    return (word, name, chance.randint(0, 99), some(chance, 8, 1), actions, some(chance, 8, 1), cond(chance, deep), duties)


def tree(chance, deep):
    return tuple(line(chance, deep) for _ in range(chance.randint(0, 8)))
