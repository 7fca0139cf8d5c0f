"""Combinations of walks, and walks that have the language of a machine."""

from leaveledger.companies import Company
from leaveledger.errors import TooLarge
from leaveledger.least import least_machine
from leaveledger.trees import LAST_PLACE, MOST_MOVES

FINAL = 1


def combined(book, kind, combination, end):
    """The least machine of the language of a combination, for an asker kind and an end."""
    walks = []
    numbered = with_numbers(combination, walks)
    return least_machine(Combining(book, kind, numbered, walks, end).state_rows(), FINAL)


def table_of(machine):
    """The table that has the language of a machine; raises TooLarge if there is none."""
    rows, final = machine
    moves = [(state, letter, after) for state, row in enumerate(rows) for letter, after in row]
    if len(rows) > LAST_PLACE + 1 or len(moves) > MOST_MOVES:
        raise TooLarge("table")
    return ("table", tuple(moves), final)


def with_numbers(combination, walks):
    """The combination with numbers in the place of its walks, which are put behind those that are there."""
    if combination[0] == "of":
        walks.append(combination[1])
        return ("of", len(walks) - 1)
    return (combination[0], *[with_numbers(part, walks) for part in combination[1:]])


def is_combined(combination, truths):
    """Whether a word is one of a combination, for each of its walks whether the word is one of it."""
    word = combination[0]
    if word == "of":
        return truths[combination[1]]
    if word == "not":
        return not is_combined(combination[1], truths)
    parts = [is_combined(part, truths) for part in combination[1:]]
    return all(parts) if word == "both" else any(parts)


class Combining:
    """The beginnings of all words, those with the same letters allowed and the same sets of places taken as one."""

    def __init__(self, book, kind, combination, walks, end):
        self.company = Company(book, walks)
        self.combination = combination
        self.end = end
        standing, sets = (kind, ()), tuple([(0,) for _ in walks])
        self.states = [(standing, sets), None]
        self.numbers = {self.key_of(standing, sets): 0}

    def state_rows(self):
        """For each state the pairs of a letter and the state behind it; FINAL is the state of whole words."""
        found = [self.pairs_of(0), []]
        while len(found) < len(self.states):
            found.append(self.pairs_of(len(found)))
        return found

    def pairs_of(self, state):
        """The pairs of a letter and the state behind it."""
        standing, sets = self.states[state]
        found = []
        for letter, after in self.company.steps_from(standing, sets):
            if letter[1] == self.end:
                truths = [self.company.has_last(at, places) for at, places in enumerate(after)]
                if is_combined(self.combination, truths):
                    found.append((letter, FINAL))
            elif self.company.leads_to_group(letter):
                found.append((letter, self.state_of(letter[1:], after)))
        return found

    def key_of(self, standing, sets):
        """What standings with the same letters have in common, and the sets of places."""
        return (self.company.alphabet.class_of(standing), sets)

    def state_of(self, standing, sets):
        """The number of a state, a new one if it is met for the first time."""
        key = self.key_of(standing, sets)
        if key not in self.numbers:
            self.numbers[key] = len(self.states)
            self.states.append((standing, sets))
        return self.numbers[key]
