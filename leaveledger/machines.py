"""The least machines of the languages of walks."""

from leaveledger.alphabets import Alphabet
from leaveledger.least import least_machine
from leaveledger.places import Places

FINAL = 1


def machine(book, kind, walk, end):
    """The least machine of the language of a walk, for an asker kind and an end."""
    return least_machine(Beginnings(book, kind, walk, end).rows(), FINAL)


def takes(machine, word):
    """Whether a machine takes a tuple of letters."""
    rows, final = machine
    state = 0
    for letter in word:
        state = state_after(rows[state], letter)
        if state is None:
            return False
    return state == final


def state_after(row, letter):
    """The state to which a row leads with a letter; None if it leads nowhere."""
    for other, state in row:
        if other == letter:
            return state
    return None


class Beginnings:
    """The beginnings of words, those with the same places and the same letters allowed after them taken as one."""

    def __init__(self, book, kind, walk, end):
        self.alphabet = Alphabet(book)
        self.places = Places(book, walk)
        self.end = end
        self.states = [(self.alphabet.class_of((kind, ())), (0,)), None]
        self.numbers = {self.states[0]: 0}

    def rows(self):
        """For each state the pairs of a letter and the state behind it; FINAL is the state of whole words."""
        found = [self.row_of(0), []]
        while len(found) < len(self.states):
            found.append(self.row_of(len(found)))
        return found

    def row_of(self, state):
        """The pairs of a letter and the state behind it."""
        number, at = self.states[state]
        letters = self.alphabet.letters_of(number)
        found = []
        for letter in letters:
            places = self.places(at, letter)
            if letter[1] == self.end:
                if any([place in self.places.last for place in places]):
                    found.append((letter, FINAL))
            elif places:
                # Behind another thing or badge no letter is allowed, so no word goes on with this one.
                found.append((letter, self.number_of(letter[1:], places)))
        return found

    def number_of(self, standing, places):
        """The number of a state, a new one if it is met for the first time."""
        state = (self.alphabet.class_of(standing), places)
        if state not in self.numbers:
            self.numbers[state] = len(self.states)
            self.states.append(state)
        return self.numbers[state]
