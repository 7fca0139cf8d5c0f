"""Asks without their asker or their thing, as queries to a store about the nodes that can stand there."""

from leaveledger.asks import PARTS, is_fitting
from leaveledger.back import comers
from leaveledger.bounds import MOST_WORTH
from leaveledger.errors import BadAsk
from leaveledger.facts import Facts
from leaveledger.plans import Plan
from leaveledger.policies import policies_of
from leaveledger.sights import kinds_in, sight_of
from leaveledger.walked import walked

ASKER = 0
THING = 2


def what(book, world, asker, action, kind, flags, numbers, now):
    """A query for the things of a kind for which the ask of an asker is a yes; raises BadAsk."""
    inquiry = Inquiry(book, world, (asker, action, None, flags, numbers, now), THING, kind)
    return inquiry.query((inquiry.kinds[asker], action, kind))


def who(book, world, thing, action, kind, flags, numbers, now):
    """A query for the askers of a kind whose ask for a thing is a yes; raises BadAsk."""
    inquiry = Inquiry(book, world, (None, action, thing, flags, numbers, now), ASKER, kind)
    return inquiry.query((kind, action, inquiry.kinds[thing]))


class Inquiry:
    """An ask without the part that is sought; raises BadAsk. While queries are put together, True and False stand for
    `all` and `none`, which may not stand within others."""

    def __init__(self, book, world, ask, missing, kind):
        plan = Plan(book.plan)
        self.kinds = kinds_in(world)
        for part in range(PARTS):
            if part != missing and not is_fitting(plan, self.kinds, part, ask[part]):
                raise BadAsk(part)
        self.book = book
        self.world = world
        self.ask = ask
        self.missing = missing
        self.kind = kind
        self.facts = Facts(plan, sight_of(book, world), ask)

    def query(self, frame):
        """The query for the nodes whose ask, which is of a frame, is a yes."""
        policies = policies_of(self.book.flattened, frame)
        found = False
        for rank in sorted({policy[2] for policy in policies}):
            lets = False
            bars = False
            for policy in [policy for policy in policies if policy[2] == rank]:
                if policy[0] == "let":
                    lets = either(lets, self.query_of(policy[6]))
                else:
                    bars = either(bars, self.query_of(policy[6]))
            found = both(negated(bars), either(lets, found))
        if found is True:
            return ("all",)
        return ("none",) if found is False else found

    def query_of(self, cond):
        """The query for the nodes for which a condition written out stands."""
        word = cond[0]
        if word == "always":
            return True
        if word == "not":
            return negated(self.query_of(cond[1]))
        if word == "and":
            return both(self.query_of(cond[1]), self.query_of(cond[2]))
        if word == "or":
            return either(self.query_of(cond[1]), self.query_of(cond[2]))
        if word == "walk":
            return self.path_query(cond[1], cond[2])
        if word == "atmost":
            return self.bound_query(cond[1], cond[2], cond[3])
        # What is not told is about the node that is sought.
        return self.facts.truths.get(cond, ("tag", cond[-1]))

    def path_query(self, walk, end):
        """The query for the nodes from which, or to which, a path of a walk leads."""
        if self.missing == ASKER:
            names = comers(self.book, self.world, walk, self.ask[THING] if end == "thing" else end)
        else:
            names = walked(self.book, self.world, walk, self.ask[ASKER])
            if end != "thing":
                return end in names
        found = tuple([name for name in names if self.kinds.get(name) == self.kind])
        return ("names", found) if found else False

    def bound_query(self, left, right, gap):
        """The query for the nodes for which a term is at most another one and a gap."""
        low, high = self.worth_of(left), self.worth_of(right)
        if low is not None and high is not None:
            return low <= high + gap
        if low is None and high is None:
            first, second = number_in(left), number_in(right)
            return gap >= 0 if first == second else ("gap", first, second, gap)
        if low is None:
            return between(number_in(left), 0, high + gap)
        return between(number_in(right), low - gap, MOST_WORTH)

    def worth_of(self, term):
        """The worth of a term; None if it is a number of the node that is sought."""
        return 0 if term == "0" else self.facts.worths.get(term)


def number_in(term):
    """The name of the number that a term is about."""
    return term.partition(".")[2]


def between(number, low, high):
    """The query for the nodes that have a number within bounds, which need not be worths."""
    if low <= 0 and high >= MOST_WORTH:
        return True
    if low > MOST_WORTH or high < 0:
        return False
    return ("between", number, max(low, 0), min(high, MOST_WORTH))


def negated(query):
    """The query that is true where another one is not."""
    return not query if isinstance(query, bool) else ("not", query)


def both(first, second):
    """The query that is true where two others are."""
    return joined("and", False, first, second)


def either(first, second):
    """The query that is true where one of two others is."""
    return joined("or", True, first, second)


def joined(word, settling, first, second):
    """Two queries joined by a word, for which one truth settles all and the other one nothing."""
    if settling in (first, second):
        return settling
    if isinstance(first, bool):
        return second
    return first if isinstance(second, bool) else (word, first, second)
