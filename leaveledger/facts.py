"""What is told of the tags and the numbers of an ask's asker and thing, and of the ask."""

from leaveledger.bounds import settle
from leaveledger.follows import opposite


class Facts:
    """The truths of tags and flags by their atoms, and the worths by their terms, that a sight and an ask tell."""

    def __init__(self, plan, sight, ask):
        self.owners = {ask[0]: "asker", ask[2]: "thing"}
        self.truths = {("flag", flag): truth for flag, truth in zip(plan.listed("flag"), ask[3]) if truth is not None}
        for name, tag, truth in sight[3]:
            if name in self.owners:
                self.truths[("tag", self.owners[name], tag)] = truth
        worths = {f"ask.{asked}": worth for asked, worth in zip(plan.listed("asked"), ask[4])}
        for name, number, worth in sight[4]:
            if name in self.owners:
                worths[f"{self.owners[name]}.{number}"] = worth
        worths["now"] = ask[5]
        self.worths = {term: worth for term, worth in worths.items() if worth is not None}

    def is_against(self, atom, truth):
        """Whether the contrary of a literal about a tag or a flag is told."""
        return atom[0] in ("tag", "flag") and self.truths.get(atom, truth) != truth

    def bounds_with(self, literals):
        """The bounds that literals about numbers mean, and those of the worths that are told."""
        found = [bound_of(atom, truth) for atom, truth in literals]
        for term, worth in self.worths.items():
            found.extend([(term, "0", worth), ("0", term, -worth)])
        return found

    def settled(self, literals):
        """The least worths with which literals about numbers stand, or a ring that shows that there are none."""
        return settle(self.bounds_with(literals))


def bound_of(atom, truth):
    """The bound that a literal about numbers means."""
    return atom[1:] if truth else opposite(atom[1:])
