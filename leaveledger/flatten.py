"""The flat tree of a tree: without names for walks, conditions and roles."""

from leaveledger.meanings import Meanings


def flat(tree):
    """The flat tree of a tree without faults."""
    meanings = Meanings(tree)
    lines = []
    for line in tree:
        if line[0] in ("let", "bar"):
            lines.append(meanings.written_policy(line))
        elif line[0] not in ("role", "walk", "when"):
            lines.append(line)
    return tuple(lines)
