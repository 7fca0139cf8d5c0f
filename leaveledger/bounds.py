"""Worths that keep bounds, and rings of bounds that no worths keep."""

from leaveledger.names import is_integer

MOST_WORTH = 9999


def settle(bounds):
    """The least worths that keep all bounds, or a ring that shows that there are none."""
    chains = with_limits(bounds)
    least = {term: 0 for term in ("0", *terms_of(bounds))}
    behind = {}
    raised = None
    # What is raised so often as there are terms is raised by a ring.
    for _ in range(len(least)):
        raised = raise_once(chains, least, behind)
        if raised is None:
            return ("least", tuple([(term, least[term]) for term in terms_of(bounds)]))
    return ("ring", ring_behind(behind, raised))


def judge_ring(bounds, ring):
    """Whether something is a ring of bounds that no worths keep."""
    if not isinstance(ring, tuple) or len(ring) == 0 or not all([is_bound(bound) for bound in ring]):
        return False
    known = {bound: True for bound in with_limits(bounds)}
    if not all([bound in known for bound in ring]):
        return False
    nexts = (*ring[1:], ring[0])
    if not all([bound[1] == after[0] for bound, after in zip(ring, nexts)]):
        return False
    return sum([gap for _, _, gap in ring]) < 0


def is_bound(bound):
    """Whether something has the form of a bound."""
    if not isinstance(bound, tuple) or len(bound) != 3:
        return False
    left, right, gap = bound
    return isinstance(left, str) and isinstance(right, str) and is_integer(gap)


def terms_of(bounds):
    """The ascending list of the terms of bounds but `0`."""
    return sorted({term for left, right, _ in bounds for term in (left, right) if term != "0"})


def with_limits(bounds):
    """The bounds, and behind them those by which each of their terms is a worth."""
    terms = terms_of(bounds)
    return [*bounds, *[("0", term, 0) for term in terms], *[(term, "0", MOST_WORTH) for term in terms]]


def raise_once(bounds, least, behind):
    """Raise what is below a bound, bound by bound, and note that bound; the last term raised, None if there is none."""
    raised = None
    for bound in bounds:
        left, right, gap = bound
        if least[left] - gap > least[right]:
            least[right] = least[left] - gap
            behind[right] = bound
            raised = right
    return raised


def ring_behind(behind, term):
    """The ring to which one comes from a term by the bounds by which terms were raised."""
    for _ in behind:
        term = behind[term][0]
    ring = [behind[term]]
    while ring[-1][0] != term:
        ring.append(behind[ring[-1][0]])
    return tuple(ring[::-1])
