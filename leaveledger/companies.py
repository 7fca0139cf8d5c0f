"""Several walks of a book that read the same letters."""

from leaveledger.alphabets import Alphabet
from leaveledger.places import Places


class Company:
    """Some walks side by side, each at a set of places."""

    def __init__(self, book, walks):
        self.alphabet = Alphabet(book)
        self.members = [Places(book, walk) for walk in walks]
        self.known = {}

    def steps_from(self, standing, sets):
        """For each letter that is allowed after a standing, ascending, the letter and the sets of places after it."""
        number = self.alphabet.class_of(standing)
        columns = [self.sets_after(number, at, places) for at, places in enumerate(sets)]
        letters = self.alphabet.letters_of(number)
        return [(letter, tuple([column[at] for column in columns])) for at, letter in enumerate(letters)]

    def steps_of(self, standing, ats, sets):
        """The same for the walks with these numbers, but only for the letters after which the first one has places."""
        number = self.alphabet.class_of(standing)
        columns = [self.sets_after(number, at, places) for at, places in zip(ats, sets)]
        found = []
        for at, letter in enumerate(self.alphabet.letters_of(number)):
            if columns[0][at]:
                found.append((letter, tuple([column[at] for column in columns])))
        return found

    def sets_after(self, number, at, places):
        """The sets where one walk is after each letter of a class, from a set of places."""
        key = (number, at, places)
        if key not in self.known:
            member = self.members[at]
            self.known[key] = [member(places, letter) for letter in self.alphabet.letters_of(number)]
        return self.known[key]

    def has_last(self, at, places):
        """Whether a set of places of one walk has a last one."""
        last = self.members[at].last
        return any([place in last for place in places])

    def leads_to_group(self, letter):
        """Whether a letter leads to a group."""
        return self.alphabet.plan.sort_of(letter[1]) == "group"
