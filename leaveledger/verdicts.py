"""Which conditions stand, and which answer they make, when it is told which atoms stand."""


def holds(cond, atoms, valuation):
    """Whether a condition written out stands, for a truth for each of some atoms."""
    word = cond[0]
    if word == "always":
        return True
    if word == "not":
        return not holds(cond[1], atoms, valuation)
    if word == "and":
        return holds(cond[1], atoms, valuation) and holds(cond[2], atoms, valuation)
    if word == "or":
        return holds(cond[1], atoms, valuation) or holds(cond[2], atoms, valuation)
    return valuation[atoms.index(cond)]


def answer_of(policies, atoms, valuation):
    """The answer that the policies of a frame give, written out, for a truth for each of some atoms."""
    held = [policy for policy in policies if holds(policy[6], atoms, valuation)]
    if not held:
        return ("none", 0, (), ())
    rank = max([policy[2] for policy in held])
    highest = [policy for policy in held if policy[2] == rank]
    effect = "bar" if any([policy[0] == "bar" for policy in highest]) else "let"
    deciding = [policy for policy in highest if policy[0] == effect]
    duties = {}
    for policy in deciding:
        for duty in policy[7]:
            duties[duty] = True
    return (effect, rank, tuple([policy[1] for policy in deciding]), tuple(duties))
