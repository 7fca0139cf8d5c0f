"""Whether asks fit."""

from leaveledger.errors import BadAsk
from leaveledger.names import is_worth

PARTS = 6


def check_ask(plan, kinds, ask):
    """Raise BadAsk for the first part of an ask that does not fit; kinds has the kind of each node by its name."""
    check_parts(plan, kinds, ask, PARTS)


def check_parts(plan, kinds, ask, many):
    """The same for an ask that has just so many parts."""
    if not isinstance(ask, tuple):
        raise BadAsk(0)
    for part in range(many):
        if part >= len(ask) or not is_fitting(plan, kinds, part, ask[part]):
            raise BadAsk(part)
    if len(ask) > many:
        raise BadAsk(many)


def check_partial(plan, kinds, ask):
    """Raise BadAsk for the first part of a partial ask that is told and does not fit."""
    check_ask(plan, kinds, filled(ask))


def filled(ask):
    """A partial ask in which something that fits stands where nothing is told."""
    if not isinstance(ask, tuple):
        return ask
    return tuple([filled_part(part, told) for part, told in enumerate(ask)])


def filled_part(part, told):
    """The part of an ask that has this number, with something that fits where nothing is told."""
    if part == 3 and isinstance(told, tuple):
        return tuple([False if truth is None else truth for truth in told])
    if part == 4 and isinstance(told, tuple):
        return tuple([0 if worth is None else worth for worth in told])
    return 0 if part == 5 and told is None else told


def is_fitting(plan, kinds, part, told):
    """Whether something fits as the part of an ask that has this number."""
    if part in (0, 2):
        return is_named(plan, kinds, told, "asker" if part == 0 else "thing")
    if part == 1:
        return told in plan.listed("action")
    if part == 3:
        return is_row(told, len(plan.listed("flag"))) and all([isinstance(truth, bool) for truth in told])
    if part == 4:
        return is_row(told, len(plan.listed("asked"))) and all([is_worth(worth) for worth in told])
    return is_worth(told)


def is_named(plan, kinds, name, sort):
    """Whether something is the name of a node with a kind of this sort."""
    return isinstance(name, str) and name in kinds and plan.sort_of(kinds[name]) == sort


def is_row(row, many):
    """Whether something is a tuple with so many parts."""
    return isinstance(row, tuple) and len(row) == many
