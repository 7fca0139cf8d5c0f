"""Some atoms, with the walks that they are about."""

from leaveledger.companies import Company

# A walk of no words, which keeps the place of an atom that is about no walk.
NOWHERE = ("table", (), None)


class Topic:
    """Atoms of a book, written out; in the company each one's walk has the atom's number."""

    def __init__(self, book, atoms):
        self.book = book
        self.rows = [book.written_cond(atom) for atom in atoms]
        self.company = Company(book, [atom[1] if atom[0] == "walk" else NOWHERE for atom in self.rows])
        self.walks = self.numbers_of("walk")
        self.bounds = self.numbers_of("atmost")

    def numbers_of(self, word):
        """The numbers of the atoms that begin with a word."""
        return [number for number, atom in enumerate(self.rows) if atom[0] == word]

    def rivals_of(self, number, truths):
        """The numbers of the atoms about walks with the same end as one atom that are False; truths are pairs of a
        number and a truth."""
        end = self.rows[number][2]
        false = {other: True for other, truth in truths if not truth}
        return tuple([other for other in self.walks if other in false and self.rows[other][2] == end])
