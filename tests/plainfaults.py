"""The faults of a tree [11], [12], told once more and as simply as can be, to compare the program with."""

KINDS = {"asker", "group", "thing"}


def uses(line):
    """The used names of a line in the order of its text, each with the sorts that fit."""
    word = line[0]
    if word == "tag":
        yield from ((name, KINDS) for name in line[2])
    elif word == "number":
        yield from ((name, {"asker", "thing"}) for name in line[2])
    elif word == "tie":
        yield from ((name, {"asker", "group"}) for name in line[2])
        yield from ((name, {"group", "thing", "badge"}) for name in line[3])
    elif word == "never":
        yield line[1], {"tie"}
        yield from ((tag, {"group tag"}) for tag, _ in line[2] + line[3])
    elif word == "walk":
        yield from walk_uses(line[2])
    elif word == "when":
        yield from cond_uses(line[2])
    elif word == "role":
        yield from ((name, {"action"}) for name in line[2])
    elif word == "gate":
        if line[1] not in ("node", "tag", "rule"):
            yield line[1], {"tie"}
        yield line[2], {"action"}
    elif word in ("let", "bar"):
        yield from ((name, {"asker"}) for name in line[3])
        yield from ((name.lstrip("@"), {"role"} if "@" in name else {"action"}) for name in line[4])
        yield from ((name, {"thing"}) for name in line[5])
        yield from cond_uses(line[6])
        yield from ((name, {"duty"}) for name in line[7])


def walk_uses(walk):
    if walk[0] == "table":
        for _, (tie, end, marks), _ in walk[1]:
            yield from [(tie, {"tie"}), (end, {"group", "thing", "badge"}), *[(tag, {"group tag"}) for tag in marks]]
    elif walk[0] == "named":
        yield walk[1], {"walk"}
    elif walk[0] == "step":
        yield from [(walk[1], {"tie"})] if walk[1] != "any" else []
        yield from ((tag, {"group tag"}) for tag, _ in walk[2])
    else:
        for part in walk[1:]:
            if isinstance(part, tuple):
                yield from walk_uses(part)


def cond_uses(cond):
    if cond[0] == "walk":
        yield cond[1], {"walk", "table"}
        yield from [(cond[2], {"badge"})] if cond[2] != "thing" else []
    elif cond[0] == "tag":
        yield cond[2], {"tag", "group tag"}
    elif cond[0] in ("flag", "named"):
        yield cond[1], {{"flag": "flag", "named": "when"}[cond[0]]}
    elif cond[0] == "atmost":
        for term in cond[1:3]:
            if "." in term:
                yield term.split(".")[1], {"asked"} if term.startswith("ask.") else {"number"}
    else:
        for part in cond[1:]:
            yield from cond_uses(part)


def declared(line):
    if line[0] in ("never", "gate"):
        return ()
    return line[1] if isinstance(line[1], tuple) else (line[1],)


def depth(part):
    return 1 + max([depth(inner) for inner in part[1:] if isinstance(inner, tuple) and part[0] not in ("step", "walk")] + [0])


class PlainFaults:
    def __init__(self, tree):
        self.tree = tree
        self.first = {}
        for at, line in enumerate(tree):
            for name in declared(line):
                self.first.setdefault(name, at)
        self.broken = set()
        self.counted = []
        self.found = []
        for at, line in enumerate(tree):
            rows = list(self.of_line(at, line))
            self.found += [(at, fault) for fault in rows]
            breaks = rows or any(name in self.broken for name, _ in uses(line))
            if line[0] in ("walk", "when") and self.first[line[1]] == at and breaks:
                self.broken.add(line[1])
            if line[0] in ("let", "bar") and not breaks:
                self.counted.append(line)

    def line_of(self, name):
        return self.tree[self.first[name]]

    def sort(self, name):
        line = self.line_of(name)
        if line[0] == "tag":
            grouped = [kind for kind in line[2] if kind in self.first and self.line_of(kind)[0] == "group"]
            return "group tag" if grouped else "tag"
        return "table" if line[0] == "walk" and line[2][0] == "table" else line[0]

    def of_line(self, at, line):
        """The faults of a line."""
        many = 0
        for name in declared(line):
            if self.first[name] < at:
                many += 1
                yield "twice", name
        for name, fitting in uses(line):
            if self.first.get(name, at) >= at:
                many += 1
                yield "unknown", name
            elif self.sort(name) not in fitting:
                many += 1
                yield "wrong", name
        if line[0] == "tag" and self.first[line[1]] == at and self.sort(line[1]) == "group tag":
            above = [row for place, row in enumerate(self.tree[:at])
                     if row[0] == "tag" and self.first[row[1]] == place and self.sort(row[1]) == "group tag"]
            if len(above) >= 3:
                yield "many", line[1]
        if many or any(name in self.broken for name, _ in uses(line)) or line[0] not in ("walk", "when", "let", "bar"):
            return
        if self.is_long(line):
            yield "long", line[1]
        elif line[0] in ("let", "bar"):
            yield from self.of_policy(line)

    def is_long(self, line):
        if line[0] == "walk":
            walk = self.walk_out(line[2])
            return walk[0] != "table" and (self.steps(walk) > 8 or depth(walk) > 30)
        cond = self.cond_out(line[-1] if line[0] == "when" else line[6])
        return len(self.leaves(cond)) > 40 or depth(cond) > 30

    def steps(self, walk):
        return 1 if walk[0] == "step" else sum(self.steps(part) for part in walk[1:])

    def leaves(self, cond):
        if cond[0] not in ("and", "or", "not"):
            return [cond]
        return [leaf for part in cond[1:] for leaf in self.leaves(part)]

    def walk_out(self, walk):
        if walk[0] in ("step", "table"):
            return walk
        if walk[0] == "named":
            return self.walk_out(self.line_of(walk[1])[2])
        if walk[0] == "upto":
            once = found = ("maybe", self.walk_out(walk[1]))
            for _ in range(walk[2] - 1):
                found = ("then", found, once)
            return found
        return (walk[0], *[self.walk_out(part) for part in walk[1:]])

    def cond_out(self, cond):
        if cond[0] == "named":
            return self.cond_out(self.line_of(cond[1])[2])
        if cond[0] == "walk":
            return ("walk", self.walk_out(("named", cond[1])), cond[2])
        if cond[0] in ("and", "or", "not"):
            return (cond[0], *[self.cond_out(part) for part in cond[1:]])
        return cond

    def of_policy(self, line):
        many = 0
        for owner, kinds in (("asker", line[3]), ("thing", line[5])):
            for kind in kinds:
                for leaf in self.leaves(self.cond_out(line[6])):
                    needs = [leaf[2]] if leaf[:2] == ("tag", owner) else []
                    if leaf[0] == "atmost":
                        needs = [term.split(".")[1] for term in leaf[1:3] if term.split(".")[0] == owner]
                    for name in needs:
                        if kind not in self.line_of(name)[2]:
                            many += 1
                            yield "unfit", name
        if not many and any(len(self.atoms(frame, [*self.counted, line])) > 8 for frame in self.frames(line)):
            yield "many", line[1]

    def frames(self, line):
        actions = [action for word in line[4] for action in (self.line_of(word[1:])[2] if "@" in word else [word])]
        return {(asker, action, thing) for asker in line[3] for action in actions for thing in line[5]}

    def atoms(self, frame, lines):
        return {leaf for line in lines if frame in self.frames(line) for leaf in self.leaves(self.cond_out(line[6]))
                if leaf != ("always",)}


def plain_faults(tree):
    return tuple(PlainFaults(tree).found)
