"""What claims about further links say: which truths of a frame's atoms, in a world and in one with more links, break
them."""

from leaveledger.errors import BadClaim
from leaveledger.outlooks import Outlook
from leaveledger.plans import Plan
from leaveledger.policies import policies_of
from leaveledger.sights import bare
from leaveledger.topics import Topic
from leaveledger.valuations import number_of
from leaveledger.verdicts import yes_column


class LinkCase:
    """A claim about further links about a frame; raises BadClaim. A double valuation has a pair of truths for each
    atom."""

    def __init__(self, book, frame, claim):
        self.form, self.ties = claim
        plan = Plan(book.plan)
        if not all([tie in plan.ties for tie in self.ties]):
            raise BadClaim()
        atoms = book.atoms(frame)
        self.column = yes_column(policies_of(book.flattened, frame), atoms)
        sight, ask = bare(book, frame)
        self.outlook = Outlook(Topic(book, atoms), sight, ask)

    def choices(self):
        """For each atom the pairs of truths that it can have; only a walk can be fulfilled by further links."""
        topic = self.outlook.topic
        turns = ((False, False), (False, True), (True, True))
        return [turns if number in topic.walks else (turns[0], turns[2]) for number in range(len(topic.rows))]

    def is_broken_by(self, row):
        """Whether a double valuation breaks the claim."""
        before, after = [self.is_yes(valuation) for valuation in both_of(row)]
        return before and not after if self.form == "keeps" else after and not before

    def is_yes(self, valuation):
        """Whether the answer for a valuation is a yes."""
        return self.column >> number_of(valuation) & 1 == 1


def both_of(row):
    """The two valuations of a double one."""
    return (tuple([first for first, _ in row]), tuple([second for _, second in row]))
