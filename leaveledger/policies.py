"""The frames of policies, and the atoms of conditions."""


def frames_of(policy):
    """The frames of a policy whose actions are written out, in order."""
    _, _, _, askers, actions, things, _, _ = policy
    return [(asker, action, thing) for asker in askers for action in actions for thing in things]


def policies_in(tree):
    """The policies of a tree, in order."""
    return [line for line in tree if line[0] in ("let", "bar")]


def policies_of(tree, frame):
    """The policies of a flat tree that are of a frame, in order."""
    asker, action, thing = frame
    return [line for line in policies_in(tree) if asker in line[3] and action in line[4] and thing in line[5]]


def atoms_of(cond):
    """The different atoms of a condition written out, in the order in which they stand first."""
    return merged([], leaves_of(cond))


def leaves_of(cond):
    """The atoms of a condition written out, each time that they stand there."""
    word = cond[0]
    if word == "always":
        return []
    if word == "not":
        return leaves_of(cond[1])
    if word in ("and", "or"):
        return leaves_of(cond[1]) + leaves_of(cond[2])
    return [cond]


def merged(atoms, more):
    """Different atoms, and behind them those of a second row that are not among them."""
    # Atoms may be nested deeply, so they are no keys.
    found = list(atoms)
    for atom in more:
        if atom not in found:
            found.append(atom)
    return found
