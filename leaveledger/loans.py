"""Loans, and the chains by which they let."""

from leaveledger.cases import Case

NAME = 0
GIVER = 1
TAKER = 2
ACTIONS = 3
THING = 4
UNTIL = 5
DEPTH = 6


class Matter:
    """An ask of a house without its asker, with the loans that cover it, in ascending order."""

    def __init__(self, terrain, loans, action, thing, flags, numbers):
        self.terrain = terrain
        self.parts = (action, thing, flags, numbers)
        self.loans = [loan for loan in loans if action in loan[ACTIONS] and loan[THING] in (None, thing)]
        self.cases = {}

    def case_of(self, asker):
        """The case of an asker's ask."""
        if asker not in self.cases:
            self.cases[asker] = Case(self.terrain, (asker, *self.parts))
        return self.cases[asker]

    def answer_to(self, asker, now):
        """The answer to an asker's ask at a moment."""
        return self.case_of(asker).answer_at(now)

    def verdict(self, asker, now):
        """Whether an asker may at a moment, and by which policies or loans."""
        effect, _, names, _ = self.answer_to(asker, now)
        if effect != "none":
            return ("own" if effect == "let" else "barred", names)
        chain = self.chain(asker, now, None)
        return ("none", ()) if chain is None else ("lent", chain)

    def allows(self, asker, now):
        """Whether an asker may at a moment."""
        return self.verdict(asker, now)[0] in ("own", "lent")

    def chain(self, asker, now, without):
        """The names of the loans of the first shortest chain for an asker whose own ask has no effect, without the loan
        of a name; None if there is no chain."""
        standing = [loan for loan in self.loans if now < loan[UNTIL] and loan[NAME] != without]
        known = {asker: True}
        # Each item is a chain and the giver of its last loan; those with as many loans come in their order.
        waiting = [((), asker)]
        at = 0
        while at < len(waiting):
            names, taker = waiting[at]
            for loan in [loan for loan in standing if loan[TAKER] == taker and loan[DEPTH] >= len(names)]:
                giver = loan[GIVER]
                if giver not in known:
                    known[giver] = True
                    effect = self.answer_to(giver, now)[0]
                    if effect == "let":
                        return (*names, loan[NAME])
                    if effect == "none":
                        waiting.append(((*names, loan[NAME]), giver))
            at += 1
        return None

    def hangs_on(self, name, asker, now):
        """Whether an asker may at a moment, but could not without the loan of a name."""
        if self.answer_to(asker, now)[0] != "none":
            return False
        chain = self.chain(asker, now, None)
        return chain is not None and name in chain and self.chain(asker, now, name) is None

    def turning_moments(self, asker):
        """The ascending list of the moments at which it may turn whether an asker may."""
        found = [loan[UNTIL] for loan in self.loans]
        for name in [asker, *[loan[GIVER] for loan in self.loans]]:
            found.extend(self.case_of(name).turning_moments())
        return sorted(set(found))
