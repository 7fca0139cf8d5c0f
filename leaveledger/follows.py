"""What follows from bounds."""

from leaveledger.bounds import settle, with_limits


def opposite(bound):
    """The bound that just those worths keep that do not keep a bound."""
    left, right, gap = bound
    return (right, left, -gap - 1)


def follows(bounds, bound):
    """A ring that shows that a bound follows from bounds, or worths that keep these but not it."""
    word, found = settle([*bounds, opposite(bound)])
    return ("follows", found) if word == "ring" else ("breaks", found)


def tightest(bounds, l, r):
    """The least gap with which a bound of l and r follows from bounds; None if no worths keep them."""
    if settle(bounds)[0] == "ring":
        return None
    chains = with_limits([*bounds, (l, l, 0), (r, r, 0)])
    gaps = {l: 0}
    # From every term a chain leads by `0` to every other one, and none gets shorter by a ring.
    while shorten_once(chains, gaps):
        pass
    return gaps[r]


def shorten_once(bounds, gaps):
    """Lessen the sums of the gaps of chains, bound by bound; whether one was lessened."""
    is_shorter = False
    for left, right, gap in bounds:
        if left in gaps and (right not in gaps or gaps[left] + gap < gaps[right]):
            gaps[right] = gaps[left] + gap
            is_shorter = True
    return is_shorter
