"""Which conditions stand, and which answer they make, when it is told which atoms stand."""


def holds(cond, atoms, valuation):
    """Whether a condition written out stands, for a truth for each of some atoms."""
    word = cond[0]
    if word == "always":
        return True
    if word == "not":
        return not holds(cond[1], atoms, valuation)
    if word == "and":
        return holds(cond[1], atoms, valuation) and holds(cond[2], atoms, valuation)
    if word == "or":
        return holds(cond[1], atoms, valuation) or holds(cond[2], atoms, valuation)
    return valuation[atoms.index(cond)]


def answer_of(policies, atoms, valuation):
    """The answer that the policies of a frame give, written out, for a truth for each of some atoms."""
    return answer_by([policy for policy in policies if holds(policy[6], atoms, valuation)])


def answers_by_valuation(policies, atoms):
    """The answer for each valuation of some atoms, those with the first atom False first, and so on."""
    many = 1 << len(atoms)
    columns = [column_of(policy[6], atoms) for policy in policies]
    found = []
    for at in range(many):
        found.append(answer_by([policy for policy, column in zip(policies, columns) if column >> at & 1]))
    return found


def column_of(cond, atoms):
    """For each valuation of some atoms a bit that tells whether a condition written out stands."""
    whole = whole_column(atoms)
    word = cond[0]
    if word == "always":
        return whole
    if word == "not":
        return whole ^ column_of(cond[1], atoms)
    if word == "and":
        return column_of(cond[1], atoms) & column_of(cond[2], atoms)
    if word == "or":
        return column_of(cond[1], atoms) | column_of(cond[2], atoms)
    # So many valuations in a row have the atom False, and then as many True.
    run = 1 << (len(atoms) - 1 - atoms.index(cond))
    return whole // ((1 << run) + 1) << run


def whole_column(atoms):
    """A bit for each valuation of some atoms."""
    return (1 << (1 << len(atoms))) - 1


def yes_column(policies, atoms):
    """For each valuation of some atoms a bit that tells whether the answer is a yes."""
    return yes_column_with(policies, atoms, policies)


def yes_column_with(policies, atoms, wanted):
    """The same, but only for a yes to which one of the wanted policies belongs."""
    whole = whole_column(atoms)
    found = 0
    for rank in sorted({policy[2] for policy in policies}):
        bars = lets = best = 0
        for policy in [policy for policy in policies if policy[2] == rank]:
            column = column_of(policy[6], atoms)
            if policy[0] == "bar":
                bars = bars | column
            else:
                lets = lets | column
                best = best | (column if policy in wanted else 0)
        found = (whole ^ bars) & (best | (whole ^ lets) & found)
    return found


def answer_by(held):
    """The answer that policies give that hold."""
    if not held:
        return ("none", 0, (), ())
    rank = max([policy[2] for policy in held])
    highest = [policy for policy in held if policy[2] == rank]
    effect = "bar" if any([policy[0] == "bar" for policy in highest]) else "let"
    deciding = [policy for policy in highest if policy[0] == effect]
    duties = {}
    for policy in deciding:
        for duty in policy[7]:
            duties[duty] = True
    return (effect, rank, tuple([policy[1] for policy in deciding]), tuple(duties))
