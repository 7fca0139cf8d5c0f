"""How large walks and conditions are when they are written out, without writing them out."""


def walk_size(walk, walks):
    """The steps and the depth of an expression; walks has those that it names, written out."""
    word = walk[0]
    if word == "step":
        return (1, 1)
    if word == "named":
        return walk_size(walks[walk[1]], walks)
    if word == "upto":
        # So many times `maybe`, with one `then` fewer between them.
        steps, depth = walk_size(walk[1], walks)
        return (steps * walk[2], depth + walk[2])
    return joined_size([walk_size(part, walks) for part in walk[1:]])


def cond_size(cond, conds):
    """The number of the atoms and each `always`, and the depth; conds has the named conditions, written out."""
    word = cond[0]
    if word == "named":
        return cond_size(conds[cond[1]], conds)
    if word in ("not", "and", "or"):
        return joined_size([cond_size(part, conds) for part in cond[1:]])
    return (1, 1)


def joined_size(sizes):
    """The size of a whole from the sizes of its parts."""
    return (sum([many for many, _ in sizes]), 1 + max([depth for _, depth in sizes]))
