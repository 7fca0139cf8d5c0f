"""What the walks, conditions and roles that a tree names mean, written out."""


class Meanings:
    """What names mean, taken from lines in order; what a line names must stand further up."""

    def __init__(self, tree):
        self.walks = {}
        self.conds = {}
        self.roles = {}
        for line in tree:
            self.learn(line)

    def learn(self, line):
        """Take in what the name of a line means, if it is a `walk`, a `when` or a `role`."""
        if line[0] == "walk":
            self.walks[line[1]] = self.written(line[2])
        elif line[0] == "when":
            self.conds[line[1]] = self.written_cond(line[2])
        elif line[0] == "role":
            self.roles[line[1]] = line[2]

    def written(self, walk):
        """A walk written out."""
        word = walk[0]
        if word in ("step", "table"):
            return walk
        if word == "named":
            return self.walks[walk[1]]
        if word == "upto":
            return repeated(("maybe", self.written(walk[1])), walk[2])
        return (word, *[self.written(part) for part in walk[1:]])

    def written_cond(self, cond):
        """A condition written out."""
        word = cond[0]
        if word == "named":
            return self.conds[cond[1]]
        if word == "walk":
            return ("walk", self.written_path(cond[1]), cond[2])
        if word in ("not", "and", "or"):
            return (word, *[self.written_cond(part) for part in cond[1:]])
        return cond

    def written_path(self, walk):
        """The walk of a condition written out, which is a name or is a walk already."""
        return self.walks[walk] if isinstance(walk, str) else self.written(walk)

    def written_actions(self, words):
        """The actions of a policy written out, each where it stands first."""
        found = []
        for word in words:
            for action in self.actions_of(word):
                if action not in found:
                    found.append(action)
        return tuple(found)

    def actions_of(self, word):
        """The actions that one word of a policy means."""
        return self.roles[word[1:]] if word.startswith("@") else (word,)

    def written_policy(self, line):
        """A policy written out."""
        word, name, rank, askers, actions, things, cond, duties = line
        actions = self.written_actions(actions)
        return (word, name, rank, askers, actions, things, self.written_cond(cond), duties)


def repeated(walk, times):
    """A walk so many times, one behind the other."""
    found = walk
    for _ in range(times - 1):
        found = ("then", found, walk)
    return found
