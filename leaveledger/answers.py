"""What stands for an ask in a world, and the answer to it."""

from leaveledger.asks import check_ask
from leaveledger.plans import Plan
from leaveledger.policies import atoms_of, policies_of
from leaveledger.verdicts import answer_of, holds
from leaveledger.walked import Terrain


def stands(book, world, ask, cond):
    """Whether a condition of the book, or an atom, stands for an ask in a world; raises BadAsk."""
    asking = Asking(Terrain(book, world), ask)
    written = book.written_cond(cond)
    atoms = atoms_of(written)
    return holds(written, atoms, asking.valuation(atoms))


def answer(book, world, ask):
    """The answer to an ask in a world; raises BadAsk."""
    asking = Asking(Terrain(book, world), ask)
    frame = asking.frame()
    atoms = book.atoms(frame)
    return answer_of(policies_of(book.flattened, frame), atoms, asking.valuation(atoms))


class Asking:
    """An ask that fits, in its world; raises BadAsk for another one."""

    def __init__(self, terrain, ask):
        plan = Plan(terrain.book.plan)
        self.kinds = {name: kind for name, kind, _ in terrain.world[0]}
        check_ask(plan, self.kinds, ask)
        self.terrain = terrain
        self.ask = ask
        self.flags = {flag: truth for flag, truth in zip(plan.listed("flag"), ask[3])}
        self.worths = {f"ask.{asked}": worth for asked, worth in zip(plan.listed("asked"), ask[4])}
        self.worths["now"] = ask[5]
        self.worths["0"] = 0
        self.tags = {}
        for owner, name in (("asker", ask[0]), ("thing", ask[2])):
            self.learn(owner, name, terrain.world)

    def learn(self, owner, name, world):
        """Take in the tags and the numbers of the asker or the thing."""
        for node in world[0]:
            if node[0] == name:
                self.tags[owner] = node[2]
        for node, number, worth in world[2]:
            if node == name:
                self.worths[f"{owner}.{number}"] = worth

    def frame(self):
        """The frame of the ask."""
        return (self.kinds[self.ask[0]], self.ask[1], self.kinds[self.ask[2]])

    def valuation(self, atoms):
        """The tuple of the truths of some atoms."""
        return tuple([self.has(atom) for atom in atoms])

    def has(self, atom):
        """Whether an atom stands."""
        word = atom[0]
        if word == "tag":
            return atom[2] in self.tags[atom[1]]
        if word == "flag":
            return self.flags[atom[1]]
        if word == "atmost":
            return self.worths[atom[1]] <= self.worths[atom[2]] + atom[3]
        end = self.ask[2] if atom[2] == "thing" else atom[2]
        return end in self.terrain.ends_of(atom[1], self.ask[0])
