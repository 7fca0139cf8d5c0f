"""What claims say: which truths of their atoms break them."""

from leaveledger.declared import Declared
from leaveledger.errors import BadClaim, TooMany, Unlike
from leaveledger.faults import needed_of
from leaveledger.outlooks import Outlook
from leaveledger.plans import Plan
from leaveledger.policies import atoms_of, merged, policies_of
from leaveledger.sieves import Sieve
from leaveledger.sights import bare
from leaveledger.topics import Topic
from leaveledger.uses import cond_uses, fits
from leaveledger.valuations import valuations_in
from leaveledger.verdicts import column_of, whole_column, yes_column, yes_column_with

MOST_ATOMS = 10


class ClaimCase:
    """A claim about a frame of one or two books, and its atoms; raises Unlike, BadClaim, TooMany."""

    def __init__(self, books, frame, claim):
        if any([book.plan != books[0].plan for book in books]):
            raise Unlike()
        check_claim(books[0], frame, claim)
        self.claim = claim
        self.cond = books[0].written_cond(claim[1]) if claim[0] in ("only", "if") else ("always",)
        self.lines = [policies_of(book.flattened, frame) for book in books]
        atoms = []
        for book in books:
            atoms = merged(atoms, book.atoms(frame))
        atoms = merged(atoms, atoms_of(self.cond))
        if len(atoms) > MOST_ATOMS:
            raise TooMany("atom")
        sight, ask = bare(books[0], frame)
        self.outlook = Outlook(Topic(books[0], atoms), sight, ask)

    def breaking_rows(self):
        """The valuations of the atoms that break the claim."""
        atoms = self.outlook.topic.rows
        return valuations_in(self.breaking(atoms), len(atoms))

    def holds(self):
        """Whether the claim holds for all worlds."""
        sieve = Sieve(self.outlook, ())
        for row in self.breaking_rows():
            if sieve.lets(row, row):
                return False
        return True

    def breaking(self, atoms):
        """For each valuation of the atoms a bit that tells whether it breaks the claim."""
        lines = self.lines[0]
        whole = whole_column(atoms)
        yes = yes_column(lines, atoms)
        stands = column_of(self.cond, atoms)
        word = self.claim[0]
        if word == "never":
            return yes
        if word == "only":
            return yes & (whole ^ stands)
        if word == "if":
            return stands & (whole ^ yes)
        if word == "dead":
            return yes ^ yes_column([line for line in lines if line[1] != self.claim[1]], atoms)
        if word == "brings":
            return yes & (whole ^ yes_column_with(lines, atoms, [line for line in lines if self.claim[1] in line[7]]))
        other_yes = yes_column(self.lines[-1], atoms)
        return yes & (whole ^ other_yes) if word == "within" else yes ^ other_yes


def check_claim(book, frame, claim):
    """Raise BadClaim if a name in a claim is not declared as it must be, or a kind cannot have what it needs."""
    declared = Declared(book.tree)
    if claim[0] in ("only", "if"):
        if not all([is_declared(declared, name, (want,)) for name, want in cond_uses(claim[1])]):
            raise BadClaim()
        check_needs(book, frame, claim[1])
    elif claim[0] == "dead" and not is_declared(declared, claim[1], ("let", "bar")):
        raise BadClaim()
    elif claim[0] == "brings" and not is_declared(declared, claim[1], ("duty",)):
        raise BadClaim()


def is_declared(declared, name, wants):
    """Whether a name is declared as something that fits one of some wants."""
    return name in declared.lines and any([fits(declared.sort_of(name), want) for want in wants])


def check_needs(book, frame, cond):
    """Raise BadClaim if a kind of a frame cannot have a tag or a number that a condition needs of it."""
    plan = Plan(book.plan)
    written = book.written_cond(cond)
    for owner, kind in (("asker", frame[0]), ("thing", frame[2])):
        for name in needed_of(written, owner):
            if name not in plan.tags_of(kind) and name not in plan.numbers_of(kind):
                raise BadClaim()
