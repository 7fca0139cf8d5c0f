"""Answers that are kept while a world changes, each as long as its ground holds."""

from leaveledger.answers import answer
from leaveledger.asks import check_ask
from leaveledger.deeds import done
from leaveledger.errors import BadAsk
from leaveledger.grounds import ground
from leaveledger.plans import Plan
from leaveledger.sights import is_full_world, kinds_in


class Keeper:
    """Keeps asks with whether they are a yes and with their grounds; kept is the ascending tuple of these asks."""

    def __init__(self, book, world):
        self.book = book
        self.world = world
        self.kept = ()
        self.plan = Plan(book.plan)
        self.truths = {}
        self.grounds = {}

    def asked(self, ask):
        """Whether an ask is a yes; it is kept from now on. Raises BadAsk."""
        check_ask(self.plan, kinds_in(self.world), ask)
        if ask not in self.truths:
            found = ground(self.book, self.world, ask)
            self.truths[ask] = answer(self.book, self.world, ask)[0] == "let"
            self.grounds[ask] = found
            self.kept = tuple(sorted(self.truths))
        return self.truths[ask]

    def ground(self, ask):
        """The ground of a kept ask; None for another one."""
        try:
            check_ask(self.plan, kinds_in(self.world), ask)
        except BadAsk:
            return None
        return self.grounds.get(ask)

    def change(self, deed):
        """Do a deed, and return the ascending tuple of the asks that are struck; raises BadDeed."""
        world = done(self.book, self.world, deed)
        struck = [ask for ask in self.kept if not is_full_world(self.plan, self.grounds[ask], world)]
        for ask in struck:
            del self.truths[ask]
            del self.grounds[ask]
        self.world = world
        self.kept = tuple(sorted(self.truths))
        return tuple(struck)
