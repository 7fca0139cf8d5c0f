"""The least machines of the languages of walks."""

from leaveledger.beginnings import FINAL, Beginnings
from leaveledger.least import least_machine


def machine(book, kind, walk, end):
    """The least machine of the language of a walk, for an asker kind and an end."""
    return least_machine(Beginnings(book, kind, ("of", 0), [walk], end).state_rows(), FINAL)


def takes(machine, word):
    """Whether a machine takes a tuple of letters."""
    rows, final = machine
    state = 0
    for letter in word:
        state = state_after(rows[state], letter)
        if state is None:
            return False
    return state == final


def state_after(row, letter):
    """The state to which a row leads with a letter; None if it leads nowhere."""
    for other, state in row:
        if other == letter:
            return state
    return None
