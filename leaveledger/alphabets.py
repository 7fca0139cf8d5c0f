"""The letters of a book, looked up by standings."""

from leaveledger.letters import letters_after
from leaveledger.plans import Plan


class Alphabet:
    """The letters that are allowed after standings; standings with the same letters are of one class."""

    def __init__(self, book):
        self.plan = Plan(book.plan)
        self.letter_rows = []
        self.classes_by_row = {}
        self.classes = {}

    def class_of(self, standing):
        """The number of a standing's class."""
        if standing not in self.classes:
            row = letters_after(self.plan, standing)
            if row not in self.classes_by_row:
                self.classes_by_row[row] = len(self.letter_rows)
                self.letter_rows.append(row)
            self.classes[standing] = self.classes_by_row[row]
        return self.classes[standing]

    def letters_of(self, number):
        """The ascending tuple of the letters that are allowed after the standings of a class."""
        return self.letter_rows[number]
