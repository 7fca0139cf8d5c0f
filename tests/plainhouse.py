"""Houses told once more and as simply as can be, to compare the program with."""

import itertools

from leaveledger.books import Book
from leaveledger.deeds import done
from leaveledger.errors import BadDeed, BadTree, NotLet
from tests.plain import Plain

NAMED = "abcdefghijklmnopqrstuvwxyz"


class PlainHouse:
    """A house without names for what can be looked up: every chain of loans is looked at."""

    def __init__(self, book, world, now=0):
        self.tree, self.world, self.now, self.loans, self.rows = book.tree, world, now, (), ()

    @property
    def state(self):
        return (self.tree, self.world, self.now, self.loans)

    def sorts(self, word):
        kinds = [name for line in self.tree if line[0] == word for name in line[1]]
        return [node[0] for node in self.world[0] if node[1] in kinds]

    def declared(self, word):
        return [name for line in self.tree if line[0] == word for name in line[1]]

    def answer(self, asker, ask, now):
        return Plain(self.tree).answer(self.world, (asker, *ask[1:], now))

    def chains(self, ask, now, loans):
        """The names of the loans of all chains for an ask that are shortest, in order."""
        _, action, thing, _, _ = ask
        fit = [loan for loan in loans if now < loan[5] and action in loan[3] and loan[4] in (None, thing)]
        effects = {name: self.answer(name, ask, now)[0] for name in self.sorts("asker")}
        for many in range(1, 7):
            found = [chain for chain in itertools.permutations(fit, many) if self.is_chain(ask[0], chain, effects)]
            if found:
                return sorted(tuple(loan[0] for loan in chain) for chain in found)
        return []

    def is_chain(self, asker, chain, effects):
        takers = [asker, *[loan[1] for loan in chain[:-1]]]
        if any(loan[2] != taker or loan[6] < at for at, (loan, taker) in enumerate(zip(chain, takers))):
            return False
        return effects[chain[-1][1]] == "let" and all(effects[name] != "bar" for name in takers)

    def may(self, ask, now=None, loans=None):
        now, loans = self.now if now is None else now, self.loans if loans is None else loans
        effect, _, names, _ = self.answer(ask[0], ask, now)
        if effect != "none":
            return ("own" if effect == "let" else "barred", names)
        chains = self.chains(ask, now, loans)
        return ("lent", chains[0]) if chains else ("none", ())

    def allows(self, ask, now=None, loans=None):
        return self.may(ask, now, loans)[0] in ("own", "lent")

    def turns(self, ask, most):
        """The first moment up to most at which it turns whether an ask is allowed."""
        return next((now for now in range(self.now + 1, most + 1) if self.allows(ask, now) != self.allows(ask)), None)

    def hung(self, name, action, flags, numbers):
        fewer = tuple(loan for loan in self.loans if loan[0] != name)
        asks = [(asker, action, thing, flags, numbers) for asker in self.sorts("asker") for thing in self.sorts("thing")]
        return tuple((ask[0], ask[2]) for ask in asks if self.allows(ask) and not self.allows(ask, None, fewer))

    def do(self, deed):
        """Do a deed whose parts have the kinds that they should have; raises BadDeed."""
        word = deed[0]
        if word == "lend":
            self.loans = self.with_loan(*deed[1:])
        elif word == "back":
            if deed[1] not in [loan[0] for loan in self.loans]:
                raise BadDeed()
            self.loans = tuple(loan for loan in self.loans if loan[0] != deed[1])
        elif word == "enact":
            self.tree = self.let_tree((*self.tree, deed[1]), deed[1][0] in ("let", "bar"))
        elif word == "repeal":
            fewer = tuple(line for line in self.tree if not (line[0] in ("let", "bar") and line[1] == deed[1]))
            self.tree = self.let_tree(fewer, fewer != self.tree)
        elif word == "tick":
            if deed[1] < 1 or self.now + deed[1] > 9999:
                raise BadDeed()
            self.now += deed[1]
        else:
            self.world = done(Book(self.tree), self.world, deed)
            names = [node[0] for node in self.world[0]]
            self.loans = tuple(loan for loan in self.loans if loan[1] in names and loan[2] in names and (loan[4] is None or loan[4] in names))

    def let_tree(self, tree, is_meant):
        try:
            Book(tree)
        except (BadTree, NotLet):
            raise BadDeed()
        if not is_meant:
            raise BadDeed()
        return tree

    def with_loan(self, name, giver, taker, actions, thing, until, depth):
        is_good = name[0] in NAMED and not name.startswith("zz") and name not in [loan[0] for loan in self.loans]
        is_good = is_good and giver in self.sorts("asker") and taker in self.sorts("asker") and giver != taker
        is_good = is_good and 1 <= len(actions) <= 8 and len(set(actions)) == len(actions) and set(actions) <= set(self.declared("action"))
        is_good = is_good and (thing is None or thing in self.sorts("thing")) and self.now < until <= 9999 and 0 <= depth <= 5
        if not is_good:
            raise BadDeed()
        return tuple(sorted((*self.loans, (name, giver, taker, actions, thing, until, depth)), key=lambda loan: loan[0]))

    def lets(self, by, deed):
        """Whether a deed may be entered in the name of somebody."""
        if by not in self.sorts("asker"):
            return False
        if deed[0] == "lend":
            return deed[2] == by
        if deed[0] == "back":
            return (deed[1], by) in [loan[:2] for loan in self.loans]
        guards = {"node": "node", "drop": "node", "tag": "tag", "number": "tag", "enact": "rule", "repeal": "rule"}
        guard = deed[2] if deed[0] in ("link", "cut") else guards.get(deed[0])
        gates = [line for line in self.tree if line[0] == "gate" and line[1] == guard]
        if not gates:
            return True
        _, _, action, thing = gates[0]
        flags, numbers = tuple(False for _ in self.declared("flag")), tuple(0 for _ in self.declared("asked"))
        return thing in self.sorts("thing") and self.allows((by, action, thing, flags, numbers))
