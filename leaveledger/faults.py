"""The faults of a tree, for which a book is not let."""

from leaveledger.declared import Declared, declared_by
from leaveledger.meanings import Meanings
from leaveledger.policies import atoms_of, frames_of, leaves_of, merged
from leaveledger.sizes import cond_size, walk_size
from leaveledger.uses import fits, uses_of

MOST_GROUP_TAGS = 3
MOST_STEPS = 8
MOST_LEAVES = 40
MOST_DEPTH = 30
MOST_ATOMS = 8


def faults(tree):
    """The tuple of all faults of a tree, as pairs of a line's number and a fault."""
    checker = Checker(tree)
    found = []
    for at, line in enumerate(tree):
        for fault in checker.checked(at, line):
            found.append((at, fault))
    return tuple(found)


class Checker:
    """Goes through the lines of a tree, from the first one on, and keeps what later lines need of them."""

    def __init__(self, tree):
        self.declared = Declared(tree)
        self.meanings = Meanings(())
        self.broken = {}
        self.group_tags = 0
        self.atoms_by_frame = {}

    def checked(self, at, line):
        """The faults of the next line."""
        found = self.twice(at, line) + self.misused(at, line) + self.too_many_tags(at, line)
        names_broken = any([name in self.broken for name, _ in uses_of(line)])
        if not found and not names_broken:
            found = self.too_long(line) or self.policy_faults(line)
        self.keep(at, line, len(found) > 0 or names_broken)
        return found

    def twice(self, at, line):
        """The faults of names that are declared further up."""
        return [("twice", name) for name in declared_by(line) if not self.declared.declares(at, name)]

    def misused(self, at, line):
        """The faults of names that are not declared further up, or as something else."""
        found = []
        for name, want in uses_of(line):
            if not self.declared.is_above(at, name):
                found.append(("unknown", name))
            elif not fits(self.declared.sort_of(name), want):
                found.append(("wrong", name))
        return found

    def too_many_tags(self, at, line):
        """The fault of a line that declares one group tag too many."""
        if line[0] != "tag" or not self.declared.declares(at, line[1]):
            return []
        if self.declared.sort_of(line[1]) != "mark":
            return []
        self.group_tags += 1
        return [("many", line[1])] if self.group_tags > MOST_GROUP_TAGS else []

    def too_long(self, line):
        """The fault of a walk or a condition that is too large when it is written out."""
        word = line[0]
        if word == "walk" and line[2][0] != "table":
            many, depth = walk_size(line[2], self.meanings.walks)
            is_long = many > MOST_STEPS or depth > MOST_DEPTH
        elif word in ("when", "let", "bar"):
            many, depth = cond_size(line[2] if word == "when" else line[6], self.meanings.conds)
            is_long = many > MOST_LEAVES or depth > MOST_DEPTH
        else:
            is_long = False
        return [("long", line[1])] if is_long else []

    def policy_faults(self, line):
        """The faults that only policies without other ones have."""
        if line[0] not in ("let", "bar"):
            return []
        policy = self.meanings.written_policy(line)
        found = []
        for owner, kinds in (("asker", policy[3]), ("thing", policy[5])):
            needed = needed_of(policy[6], owner)
            for kind in kinds:
                found.extend([("unfit", name) for name in needed if not self.declared.can_have(kind, name)])
        if not found and self.has_many_atoms(policy):
            found.append(("many", line[1]))
        return found

    def has_many_atoms(self, policy):
        """Whether some frame of a policy has too many atoms, with those of the policies further up."""
        own = atoms_of(policy[6])
        if len(own) > MOST_ATOMS:
            return True
        return any([len(self.atoms_with(frame, own)) > MOST_ATOMS for frame in frames_of(policy)])

    def atoms_with(self, frame, own):
        """The atoms of a frame together with those of one more policy."""
        return merged(self.atoms_by_frame.get(frame, []), own)

    def keep(self, at, line, is_broken):
        """Keep what a line means for the lines behind it."""
        word = line[0]
        if word in ("walk", "when", "role") and self.declared.declares(at, line[1]):
            # A role means what its line says, also if that has a fault.
            if is_broken and word != "role":
                self.broken[line[1]] = True
            else:
                self.meanings.learn(line)
        elif word in ("let", "bar") and not is_broken:
            policy = self.meanings.written_policy(line)
            own = atoms_of(policy[6])
            for frame in frames_of(policy):
                self.atoms_by_frame[frame] = self.atoms_with(frame, own)


def needed_of(cond, owner):
    """The tags and numbers that a condition written out needs of its owner, each time that they stand there."""
    found = []
    for atom in leaves_of(cond):
        if atom[0] == "tag" and atom[1] == owner:
            found.append(atom[2])
        elif atom[0] == "atmost":
            for term in (atom[1], atom[2]):
                if term.startswith(f"{owner}."):
                    found.append(term.removeprefix(f"{owner}."))
    return found
