"""What walks, conditions and policies mean, told once more and as simply as can be, to compare the program with."""

from leaveledger.letters import letters


def all_words(book, kind, end, most):
    """All words from an asker kind to an end with at most so many letters."""
    groups = {name for line in book.plan if line[0] == "group" for name in line[1]}
    beginnings = [((), (kind, ()))]
    found = []
    for _ in range(most):
        longer = []
        for word, standing in beginnings:
            for letter in letters(book, standing):
                if letter[1] == end:
                    found.append((*word, letter))
                elif letter[1] in groups:
                    longer.append(((*word, letter), letter[1:]))
        beginnings = longer
    return found


class Plain:
    """A tree without faults, taken at its word: nothing is written out."""

    def __init__(self, tree):
        self.tree = tree
        self.walks = {line[1]: line[2] for line in tree if line[0] == "walk"}
        self.conds = {line[1]: line[2] for line in tree if line[0] == "when"}
        self.roles = {line[1]: line[2] for line in tree if line[0] == "role"}
        self.groups = self.declared("group")
        self.flags = self.declared("flag")
        self.asked = self.declared("asked")

    def declared(self, word):
        return [name for line in self.tree if line[0] == word for name in line[1]]

    def reads(self, step, letter):
        _, tie, tests = step
        return tie in ("any", letter[0]) and all((tag in letter[2]) is truth for tag, truth in tests)

    def ends_in(self, walk, word, starts):
        """The places of a word behind the parts that an expression can read from some places on."""
        kind = walk[0]
        if kind == "step":
            return {at + 1 for at in starts if at < len(word) and self.reads(walk, word[at])}
        if kind == "named":
            return self.ends_in(self.walks[walk[1]], word, starts)
        once = self.ends_in(walk[1], word, starts)
        if kind == "then":
            return self.ends_in(walk[2], word, once)
        if kind == "or":
            return once | self.ends_in(walk[2], word, starts)
        many = {"maybe": 1, "upto": walk[-1], "star": len(word), "plus": len(word)}[kind]
        found = once if kind == "plus" else starts
        for _ in range(many):
            found = found | self.ends_in(walk[1], word, found)
        return found

    def has_word(self, walk, word):
        """Whether a tuple of letters is a word of a walk."""
        if walk[0] != "table":
            return len(word) in self.ends_in(walk, word, {0})
        places = {0}
        for letter in word:
            places = {after for place, sign, after in walk[1] if place in places and sign == letter}
        return walk[2] in places

    def linked(self, world):
        """The triples of a start, a letter and an end for the links of a world."""
        nodes = {name: (kind, tags if kind in self.groups else ()) for name, kind, tags in world[0]}
        return [(start, (tie, *nodes.get(end, (end, ()))), end) for start, tie, end in world[1]]

    def pairs(self, world, walk):
        """All pairs of a start and an end between which a path of an expression leads."""
        kind = walk[0]
        if kind == "step":
            return {(start, end) for start, letter, end in self.linked(world) if self.reads(walk, letter)}
        if kind == "named":
            return self.pairs(world, self.walks[walk[1]])
        once = self.pairs(world, walk[1])
        if kind == "then":
            return self.behind(once, self.pairs(world, walk[2]))
        if kind == "or":
            return once | self.pairs(world, walk[2])
        names = {name for name, _, _ in world[0]} | {end for _, _, end in world[1]}
        found = once if kind == "plus" else {(name, name) for name in names}
        for _ in range({"maybe": 1, "upto": walk[-1], "star": len(names), "plus": len(names)}[kind]):
            found = found | self.behind(found, once)
        return found

    def behind(self, pairs, others):
        return {(start, end) for start, middle in pairs for other, end in others if middle == other}

    def walked(self, world, walk, node):
        if walk[0] != "table":
            return tuple(sorted(end for start, end in self.pairs(world, walk) if start == node))
        at = {(node, 0)}
        for _ in range(len(world[0]) * 41 + 1):
            at = at | {(end, after) for start, letter, end in self.linked(world) for place, sign, after in walk[1]
                       if sign == letter and (start, place) in at}
        return tuple(sorted(name for name, place in at if place == walk[2]))

    def stands(self, world, ask, cond):
        word = cond[0]
        if word in ("and", "or"):
            truths = [self.stands(world, ask, part) for part in cond[1:]]
            return all(truths) if word == "and" else any(truths)
        if word == "not":
            return not self.stands(world, ask, cond[1])
        if word == "named":
            return self.stands(world, ask, self.conds[cond[1]])
        if word == "tag":
            name = ask[0] if cond[1] == "asker" else ask[2]
            return any(node[0] == name and cond[2] in node[2] for node in world[0])
        if word == "flag":
            return ask[3][self.flags.index(cond[1])]
        if word == "walk":
            walk = self.walks[cond[1]] if isinstance(cond[1], str) else cond[1]
            return (ask[2] if cond[2] == "thing" else cond[2]) in self.walked(world, walk, ask[0])
        return word == "always" or self.worth(world, ask, cond[1]) <= self.worth(world, ask, cond[2]) + cond[3]

    def worth(self, world, ask, term):
        owner, _, name = term.partition(".")
        if not name:
            return ask[5] if term == "now" else 0
        if owner == "ask":
            return ask[4][self.asked.index(name)]
        node = ask[0] if owner == "asker" else ask[2]
        return [row[2] for row in world[2] if row[:2] == (node, name)][0]

    def answer(self, world, ask):
        kinds = {name: kind for name, kind, _ in world[0]}
        held = []
        for line in self.tree:
            if line[0] in ("let", "bar") and kinds[ask[0]] in line[3] and kinds[ask[2]] in line[5]:
                actions = [name for word in line[4] for name in self.roles.get(word[1:], [word])]
                if ask[1] in actions and self.stands(world, ask, line[6]):
                    held.append(line)
        for rank in range(99, -1, -1):
            for effect in ("bar", "let"):
                rows = [line for line in held if line[2] == rank and line[0] == effect]
                if rows:
                    duties = [duty for line in rows for duty in line[7]]
                    different = [duty for at, duty in enumerate(duties) if duty not in duties[:at]]
                    return (effect, rank, tuple(line[1] for line in rows), tuple(different))
        return ("none", 0, (), ())
