"""Writing the text of a tree."""

# How tightly a word joins its parts; what is not told here joins most tightly.
TIGHTNESS = {"or": 0, "then": 1, "and": 1}
TIGHTEST = 2
SIGNS = {"star": "*", "plus": "+", "maybe": "?"}


def write(tree):
    """The text of a tree."""
    return "".join([joined([*line_tokens(line), ";"]) + "\n" for line in tree])


def write_walk(walk):
    """The text of a walk alone."""
    return joined(walk_tokens(walk))


def write_cond(cond):
    """The text of a condition alone."""
    return joined(cond_tokens(cond))


def joined(tokens):
    """The text of tokens."""
    return " ".join(tokens)


def line_tokens(line):
    """The tokens of a line, but for its end."""
    word = line[0]
    if word in ("let", "bar"):
        return policy_tokens(line)
    if word in ("tag", "number"):
        return [word, line[1], "on", *line[2]]
    if word == "tie":
        return [word, line[1], "from", *line[2], "to", *line[3]]
    if word == "never":
        return [word, line[1], *tests_tokens(line[2]), "to", *tests_tokens(line[3])]
    if word == "walk":
        return [word, line[1], "=", *walk_tokens(line[2])]
    if word == "when":
        return [word, line[1], "=", *cond_tokens(line[2])]
    if word == "role":
        return [word, line[1], "=", *line[2]]
    if word == "gate":
        return [word, line[1], "by", line[2], "on", line[3]]
    return [word, *line[1]]


def policy_tokens(line):
    """The tokens of a policy, but for its end."""
    word, name, rank, askers, actions, things, cond, duties = line
    found = [word, name, "rank", str(rank), *askers, "may"]
    for action in actions:
        if action.startswith("@"):
            found.append("@")
        found.append(action.removeprefix("@"))
    found.extend(["on", *things, "when", *cond_tokens(cond)])
    if duties:
        found.extend(["due", *duties])
    return found


def tests_tokens(tests):
    """The tokens of tests with their brackets."""
    found = ["["]
    for tag, truth in tests:
        if not truth:
            found.append("-")
        found.append(tag)
    return [*found, "]"]


def guarded(tokens, word, tightness):
    """The tokens of a part that begins with this word in its tree, in parentheses if it joins less tightly."""
    if TIGHTNESS.get(word, TIGHTEST) < tightness:
        return ["(", *tokens, ")"]
    return tokens


def walk_part(walk, tightness):
    """The tokens of a part of an expression that must join as tightly as told."""
    return guarded(walk_tokens(walk), walk[0], tightness)


def walk_tokens(walk):
    """The tokens of a walk."""
    word = walk[0]
    if word == "table":
        return table_tokens(walk)
    if word == "named":
        return ["@", walk[1]]
    if word == "step":
        return [walk[1], *tests_tokens(walk[2])] if walk[2] else [walk[1]]
    # What stands to the right joins more tightly, since the grammar associates to the left.
    if word == "or":
        return [*walk_part(walk[1], 0), "|", *walk_part(walk[2], 1)]
    if word == "then":
        return [*walk_part(walk[1], 1), *walk_part(walk[2], 2)]
    if word == "upto":
        return [*walk_part(walk[1], 2), "{", str(walk[2]), "}"]
    return [*walk_part(walk[1], 2), SIGNS[word]]


def table_tokens(walk):
    """The tokens of a table."""
    found = ["table"]
    for place, letter, after in walk[1]:
        if len(found) > 1:
            found.append("|")
        tie, end, marks = letter
        found.extend([str(place), tie, end, "[", *marks, "]", str(after)])
    return [*found, "final", "-" if walk[2] is None else str(walk[2])]


def cond_part(cond, tightness):
    """The tokens of a part of a condition that must join as tightly as told."""
    return guarded(cond_tokens(cond), cond[0], tightness)


def cond_tokens(cond):
    """The tokens of a condition."""
    word = cond[0]
    if word == "or":
        return [*cond_part(cond[1], 0), "or", *cond_part(cond[2], 1)]
    if word == "and":
        return [*cond_part(cond[1], 1), "and", *cond_part(cond[2], 2)]
    if word == "not":
        return ["not", *cond_part(cond[1], 2)]
    if word == "always":
        return ["always"]
    if word == "named":
        return ["@", cond[1]]
    if word == "flag":
        return ["ask", "is", cond[1]]
    if word == "tag":
        return [cond[1], "is", cond[2]]
    if word == "walk":
        return ["by", cond[1], "to", cond[2]]
    return [*term_tokens(cond[1]), "<=", *term_tokens(cond[2]), *gap_tokens(cond[3])]


def term_tokens(term):
    """The tokens of a term of a comparison."""
    owner, dot, name = term.partition(".")
    return [owner, dot, name] if dot else [owner]


def gap_tokens(gap):
    """The tokens of a gap; none for 0."""
    if gap == 0:
        return []
    return ["+", str(gap)] if gap > 0 else ["-", str(-gap)]
