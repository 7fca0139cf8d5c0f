"""Deeds in a house: those of worlds, and those about loans, policies and time."""

from leaveledger.asks import is_named
from leaveledger.books import Book
from leaveledger.deeds import done, word_of
from leaveledger.errors import BadDeed, BadTree, NotLet
from leaveledger.loans import GIVER, TAKER, THING
from leaveledger.names import is_integer, is_name, is_whole, is_worth
from leaveledger.plans import Plan
from leaveledger.sights import kinds_in
from leaveledger.trees import MOST_LISTED

LENGTHS = {"lend": 8, "back": 2, "enact": 2, "repeal": 2, "tick": 2}
MOST_DEPTH = 5
LAST_MOMENT = 9999


def done_in_house(house, deed):
    """The book, the world, the moment and the loans behind a deed in a house; raises BadDeed."""
    if is_house_deed(deed):
        change = CHANGES[deed[0]]
        return change(house, deed)
    world = done(house.book, house.world, deed)
    loans = house.loans
    if deed[0] == "drop":
        loans = {name: loan for name, loan in loans.items() if deed[1] not in (loan[GIVER], loan[TAKER], loan[THING])}
    return (house.book, world, house.now, loans)


def is_house_deed(deed):
    """Whether something begins with the word of a deed that is none of worlds, and has as many parts as such a one."""
    return len(deed) == LENGTHS[deed[0]] if word_of(deed) in LENGTHS else False


def lend(house, deed):
    """Put a loan."""
    _, name, giver, taker, actions, thing, until, depth = deed
    plan = Plan(house.book.plan)
    kinds = kinds_in(house.world)
    if not is_name(name) or name in house.loans:
        raise BadDeed()
    if not is_named(plan, kinds, giver, "asker") or not is_named(plan, kinds, taker, "asker") or giver == taker:
        raise BadDeed()
    if not are_actions(plan, actions) or thing is not None and not is_named(plan, kinds, thing, "thing"):
        raise BadDeed()
    if not is_worth(until) or until <= house.now or not is_whole(depth, 0, MOST_DEPTH):
        raise BadDeed()
    return (house.book, house.world, house.now, {**house.loans, name: deed[1:]})


def are_actions(plan, actions):
    """Whether something is a tuple of one or more different actions, not too many."""
    if not isinstance(actions, tuple) or not 1 <= len(actions) <= MOST_LISTED:
        return False
    return all([action in plan.listed("action") for action in actions]) and len(set(actions)) == len(actions)


def give_back(house, deed):
    """Take a loan back."""
    name = deed[1]
    if not isinstance(name, str) or name not in house.loans:
        raise BadDeed()
    loans = {other: loan for other, loan in house.loans.items() if other != name}
    return (house.book, house.world, house.now, loans)


def enact(house, deed):
    """Put a policy behind the lines of the book."""
    line = deed[1]
    if not isinstance(line, tuple) or len(line) == 0 or line[0] not in ("let", "bar"):
        raise BadDeed()
    try:
        book = Book((*house.book.tree, line))
    except (BadTree, NotLet):
        raise BadDeed()
    return (book, house.world, house.now, house.loans)


def repeal(house, deed):
    """Take the line of a policy away."""
    name = deed[1]
    lines = [line for line in house.book.tree if line[0] not in ("let", "bar") or line[1] != name]
    if len(lines) == len(house.book.tree):
        raise BadDeed()
    return (Book(tuple(lines)), house.world, house.now, house.loans)


def tick(house, deed):
    """Let time pass."""
    many = deed[1]
    if not is_integer(many) or many < 1 or house.now + many > LAST_MOMENT:
        raise BadDeed()
    return (house.book, house.world, house.now + many, house.loans)


CHANGES = {"lend": lend, "back": give_back, "enact": enact, "repeal": repeal, "tick": tick}
