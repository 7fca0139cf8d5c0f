"""Policies that let no more than a claim allows, by the widest table in the place of a walk."""

from leaveledger.beginnings import FINAL, Beginnings
from leaveledger.books import Book
from leaveledger.claimcases import ClaimCase, check_claim
from leaveledger.combine import table_of
from leaveledger.errors import BadClaim, Unmet
from leaveledger.least import least_machine
from leaveledger.outlooks import Outlook
from leaveledger.policies import atoms_of, merged, policies_of
from leaveledger.sieves import Sieve
from leaveledger.sights import bare
from leaveledger.topics import NOWHERE, Topic
from leaveledger.valuations import valuations_in
from leaveledger.verdicts import column_of, whole_column, yes_column


def narrowed(book, frame, policy, cond, name):
    """The tree in which a policy has the widest table in the place of its walk with which a condition stands for each
    yes; raises BadClaim, BadTree, NotLet, TooMany, Unmet, TooLarge."""
    claim = ("only", cond)
    check_claim(book, frame, claim)
    line = narrow_line(book, frame, policy)
    empty = Book(with_table(book.tree, line, name, NOWHERE))
    if not ClaimCase((empty,), frame, claim).holds():
        raise Unmet(0)
    tree = with_table(book.tree, line, name, table_of(widest(book, frame, line, cond)))
    return Book(tree).tree


def narrow_line(book, frame, policy):
    """The line of a policy whose walk can be narrowed; raises BadClaim if there is none of this name."""
    for line in book.tree:
        if line[0] == "let" and line[1] == policy and policy in book.policies(frame) and is_narrow(line):
            return line
    raise BadClaim()


def is_narrow(line):
    """Whether a policy has one asker kind and one thing kind, and asks first of all for a walk to the thing."""
    path = first_part(line[6])
    return len(line[3]) == 1 and len(line[5]) == 1 and path[0] == "walk" and path[2] == "thing"


def first_part(cond):
    """The first of two conditions that are asked for, or the only one."""
    return cond[1] if cond[0] == "and" else cond


def with_table(tree, line, name, table):
    """The tree in which a policy has a table as its walk, which a line in front of it names."""
    path = ("walk", name, "thing")
    cond = ("and", path, line[6][2]) if line[6][0] == "and" else path
    at = tree.index(line)
    return (*tree[:at], ("walk", name, table), (*line[:6], cond, line[7]), *tree[at + 1:])


def widest(book, frame, line, cond):
    """The least machine of the words of a policy's walk for which a condition stands for each yes that they make."""
    walk = book.written(("named", first_part(line[6])[1]))
    topic, columns = rivals_needed(book, frame, book.written_cond(cond))
    rivals = [number for number in topic.walks if any([column >> number & 1 for column in columns])]
    places = {number: at + 1 for at, number in enumerate(rivals)}
    parts = []
    for column in columns:
        parts.append(("either", *[("of", places[number]) for number in rivals if column >> number & 1]))
    walks = [walk, *[topic.rows[number][1] for number in rivals]]
    states = Beginnings(book, frame[0], ("both", ("of", 0), *parts), walks, frame[2])
    return least_machine(states.state_rows(), FINAL)


def rivals_needed(book, frame, cond):
    """The atoms, and the least columns with a bit for each atom's walk such that a word of the policy's walk must be a
    word of one of these walks: where all of them are not fulfilled, it would make a yes without the condition."""
    topic = Topic(book, merged(book.atoms(frame), atoms_of(cond)))
    yes = yes_column(policies_of(book.flattened, frame), topic.rows)
    column = yes & (whole_column(topic.rows) ^ column_of(cond, topic.rows))
    sight, ask = bare(book, frame)
    sieve = Sieve(Outlook(topic, sight, ask), ())
    found = {}
    for row in valuations_in(column, len(topic.rows)):
        # Without the policy the claim holds, so its walk is fulfilled in each of these that can be.
        if sieve.lets(row, row):
            found[false_paths(topic, row)] = True
    return (topic, [column for column in found if not any([is_less(other, column) for other in found])])


def false_paths(topic, row):
    """The column of the walks to the thing that a valuation does not fulfil."""
    return sum([1 << number for number in topic.walks if topic.rows[number][2] == "thing" and not row[number]])


def is_less(column, other):
    """Whether a column has fewer bits than another one, and only such as this one has."""
    return column != other and column & other == column
