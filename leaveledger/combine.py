"""Combinations of walks, and walks that have the language of a machine."""

from leaveledger.beginnings import FINAL, Beginnings
from leaveledger.errors import TooLarge
from leaveledger.least import least_machine
from leaveledger.trees import LAST_PLACE, MOST_MOVES


def combined(book, kind, combination, end):
    """The least machine of the language of a combination, for an asker kind and an end."""
    walks = []
    numbered = with_numbers(combination, walks)
    return least_machine(Beginnings(book, kind, numbered, walks, end).state_rows(), FINAL)


def table_of(machine):
    """The table that has the language of a machine; raises TooLarge if there is none."""
    rows, final = machine
    moves = [(state, letter, after) for state, row in enumerate(rows) for letter, after in row]
    if len(rows) > LAST_PLACE + 1 or len(moves) > MOST_MOVES:
        raise TooLarge("table")
    return ("table", tuple(moves), final)


def with_numbers(combination, walks):
    """The combination with numbers in the place of its walks, which are put behind those that are there."""
    if combination[0] == "of":
        walks.append(combination[1])
        return ("of", len(walks) - 1)
    return (combination[0], *[with_numbers(part, walks) for part in combination[1:]])
