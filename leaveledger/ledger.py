"""Ledgers: rows of deeds and of those in whose names they are entered."""

from leaveledger.errors import BadDeed, BadRow, Refused
from leaveledger.house import House


def audit(book, world, now, rows):
    """The number of the first row that could not be entered in a house; None if all could be."""
    return first_barred(House(book, world, now), rows)


def replayed(book, world, now, rows):
    """The state of a house behind all rows; raises BadRow."""
    house = House(book, world, now)
    at = first_barred(house, rows)
    if at is not None:
        raise BadRow(at)
    return house.state


def tried(house, rows):
    """The state that a house would have behind all rows; raises BadRow. The house stays as it is."""
    with house.trial() as held:
        at = first_barred(held, rows)
        state = held.state
    if at is not None:
        raise BadRow(at)
    return state


def first_barred(house, rows):
    """Enter rows; the number of the first one that could not be entered, None if all could be."""
    for at, (by, deed) in enumerate(rows):
        try:
            house.enter(by, deed)
        except (Refused, BadDeed):
            return at
    return None
