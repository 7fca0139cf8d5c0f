"""A house: a book, a world, a moment and loans, and who may change them."""

from leaveledger.asks import check_parts, is_fitting, is_named
from leaveledger.errors import BadAsk, NoName, Refused
from leaveledger.gates import gate_of
from leaveledger.housedeeds import LAST_MOMENT, done_in_house, is_house_deed
from leaveledger.loans import GIVER, THING, Matter
from leaveledger.plans import Plan
from leaveledger.sights import kinds_in
from leaveledger.trials import Trial
from leaveledger.walked import Terrain

ASK_PARTS = 5


class House:
    """Asks of a house have no moment, since the house has one; rows are the pairs of what was entered."""

    def __init__(self, book, world, now=0):
        self.rows = ()
        self.settle(book, world, now, {})

    def settle(self, book, world, now, loans):
        """Be a house with these; the loans are those that are not taken back, by their names."""
        self.book = book
        self.world = world
        self.now = now
        self.loans = loans
        self.state = (book.tree, world, now, tuple(sorted(loans.values())))
        self.terrain = Terrain(book, world)

    def may(self, ask):
        """Whether an ask is allowed or barred, and by which policies or loans; raises BadAsk."""
        return self.matter_of(ask).verdict(ask[0], self.now)

    def do(self, deed):
        """Do a deed; raises BadDeed."""
        book, world, now, loans = done_in_house(self, deed)
        self.settle(book, world, now, loans)

    def turns(self, ask):
        """The first moment at which it turns whether an ask is allowed; None if it does not. Raises BadAsk."""
        matter = self.matter_of(ask)
        is_allowed = matter.allows(ask[0], self.now)
        for moment in matter.turning_moments(ask[0]):
            if self.now < moment <= LAST_MOMENT and matter.allows(ask[0], moment) != is_allowed:
                return moment
        return None

    def hung(self, name, action, flags, numbers):
        """The pairs of an asker and a thing whose ask is allowed only by a loan; raises NoName, BadAsk."""
        if name not in self.loans:
            raise NoName(name)
        plan = Plan(self.book.plan)
        kinds = kinds_in(self.world)
        for part, told in ((1, action), (3, flags), (4, numbers)):
            if not is_fitting(plan, kinds, part, told):
                raise BadAsk(part)
        askers = [node for node, kind in kinds.items() if plan.sort_of(kind) == "asker"]
        things = [node for node, kind in kinds.items() if plan.sort_of(kind) == "thing"]
        found = []
        for thing in [thing for thing in things if self.loans[name][THING] in (None, thing)]:
            matter = Matter(self.terrain, self.state[3], action, thing, flags, numbers)
            found.extend([(asker, thing) for asker in askers if matter.hangs_on(name, asker, self.now)])
        return tuple(sorted(found))

    def trial(self):
        """For a block behind which the house is what it was."""
        return Trial(self)

    def enter(self, by, deed):
        """Do a deed in the name of an asker, if it may; raises Refused, BadDeed."""
        if not self.lets_enter(by, deed):
            raise Refused()
        self.do(deed)
        self.rows = (*self.rows, (by, deed))

    def matter_of(self, ask):
        """What an ask is about, whoever asks; raises BadAsk."""
        check_parts(Plan(self.book.plan), kinds_in(self.world), ask, ASK_PARTS)
        _, action, thing, flags, numbers = ask
        return Matter(self.terrain, self.state[3], action, thing, flags, numbers)

    def lets_enter(self, by, deed):
        """Whether somebody is an asker that may do a deed, whether or not it can be done."""
        plan = Plan(self.book.plan)
        kinds = kinds_in(self.world)
        if not is_named(plan, kinds, by, "asker"):
            return False
        if is_house_deed(deed) and deed[0] == "lend":
            return deed[2] == by
        if is_house_deed(deed) and deed[0] == "back":
            return isinstance(deed[1], str) and deed[1] in self.loans and self.loans[deed[1]][GIVER] == by
        gate = gate_of(self.book, deed)
        if gate is None:
            return True
        _, _, action, thing = gate
        if not is_named(plan, kinds, thing, "thing"):
            return False
        flags = tuple([False for _ in plan.listed("flag")])
        numbers = tuple([0 for _ in plan.listed("asked")])
        return Matter(self.terrain, self.state[3], action, thing, flags, numbers).allows(by, self.now)
