"""The names that the lines of a tree use, and what they are wanted for."""

# What sorts of names fit a want; a want that is not told here is fitted by the sort of its own name.
FITS = {
    "kind": ("asker", "group", "thing"),
    "holder": ("asker", "thing"),
    "front": ("asker", "group"),
    "behind": ("group", "thing", "badge"),
    "tag": ("tag", "mark"),
    "path": ("walk", "table"),
}


def fits(sort, want):
    """Whether a name of this sort fits what is wanted."""
    return sort in FITS.get(want, (want,))


def uses_of(line):
    """The pairs of a used name and what it is wanted for, in the order of the line's text."""
    word = line[0]
    if word in ("let", "bar"):
        return policy_uses(line)
    if word == "tag":
        return all_for("kind", line[2])
    if word == "number":
        return all_for("holder", line[2])
    if word == "tie":
        return all_for("front", line[2]) + all_for("behind", line[3])
    if word == "never":
        return [(line[1], "tie"), *tests_uses(line[2]), *tests_uses(line[3])]
    if word == "walk":
        return walk_uses(line[2])
    if word == "when":
        return cond_uses(line[2])
    if word == "role":
        return all_for("action", line[2])
    if word == "gate":
        return gate_uses(line)
    return []


def all_for(want, names):
    """All of these names, wanted for the same."""
    return [(name, want) for name in names]


def tests_uses(tests):
    """What tests of groups use."""
    return [(tag, "mark") for tag, _ in tests]


def gate_uses(line):
    """What a `gate` line uses; its thing is a node of worlds."""
    action = (line[2], "action")
    return [action] if line[1] in ("node", "tag", "rule") else [(line[1], "tie"), action]


def policy_uses(line):
    """What a policy uses."""
    found = all_for("asker", line[3])
    for word in line[4]:
        found.append((word[1:], "role") if word.startswith("@") else (word, "action"))
    return found + all_for("thing", line[5]) + cond_uses(line[6]) + all_for("duty", line[7])


def walk_uses(walk):
    """What a walk uses."""
    word = walk[0]
    if word == "table":
        return table_uses(walk)
    if word == "named":
        return [(walk[1], "walk")]
    if word == "step":
        ties = [] if walk[1] == "any" else [(walk[1], "tie")]
        return ties + tests_uses(walk[2])
    if word in ("then", "or"):
        return walk_uses(walk[1]) + walk_uses(walk[2])
    return walk_uses(walk[1])


def table_uses(walk):
    """What the letters of a table use."""
    found = []
    for _, letter, _ in walk[1]:
        tie, end, marks = letter
        found.extend([(tie, "tie"), (end, "behind"), *all_for("mark", marks)])
    return found


def cond_uses(cond):
    """What a condition uses."""
    word = cond[0]
    if word == "not":
        return cond_uses(cond[1])
    if word in ("and", "or"):
        return cond_uses(cond[1]) + cond_uses(cond[2])
    if word == "named":
        return [(cond[1], "when")]
    if word == "flag":
        return [(cond[1], "flag")]
    if word == "tag":
        return [(cond[2], "tag")]
    if word == "walk":
        # Lines name a walk; a condition that is passed can have the walk itself.
        paths = [(cond[1], "path")] if isinstance(cond[1], str) else walk_uses(cond[1])
        ends = [] if cond[2] == "thing" else [(cond[2], "badge")]
        return [*paths, *ends]
    if word == "atmost":
        return term_uses(cond[1]) + term_uses(cond[2])
    return []


def term_uses(term):
    """What a term uses."""
    owner, dot, name = term.partition(".")
    if not dot:
        return []
    return [(name, "asked" if owner == "ask" else "number")]
