"""Grounds: so much of a world that it settles an answer, and of which nothing can be left out."""

from leaveledger.answers import answer
from leaveledger.outlooks import Outlook
from leaveledger.sieves import Sieve
from leaveledger.sights import frame_of, sight_of
from leaveledger.sure import outcome_rows
from leaveledger.topics import Topic

LINKS = 1
CLOSED = 2
TAGS = 3
NUMBERS = 4


def weaker(sight):
    """The tuple of the sights that are one step weaker."""
    found = []
    for at in (CLOSED, LINKS, TAGS, NUMBERS):
        rows = sight[at]
        for row in free_rows(sight, at):
            found.append(with_rows(sight, at, [other for other in rows if other != row]))
    return tuple(found)


def ground(book, world, ask):
    """A ground of an ask in a world; raises BadAsk."""
    is_yes = answer(book, world, ask)[0] == "let"
    sight = sight_of(book, world)
    frame = frame_of(sight, ask)
    settler = Settler(Topic(book, book.atoms(frame)), ask, outcome_rows(book, frame, not is_yes))
    sight = near_sight(settler.outlook_of(sight))
    # What is needed when more is told is needed when less is told, so each part is gone through once.
    for at in (CLOSED, LINKS, TAGS, NUMBERS):
        sight = settler.lessened(sight, at)
    return with_own_nodes(sight, ask)


class Settler:
    """Tells whether sights settle whether an ask is a yes; rows are the valuations that must not be left."""

    def __init__(self, topic, ask, rows):
        self.topic = topic
        self.ask = ask
        self.barred = rows

    def outlook_of(self, sight):
        """A sight as the atoms look at it."""
        return Outlook(self.topic, sight, self.ask)

    def settles(self, sight):
        """Whether no completion of a sight has one of the rows."""
        sieve = Sieve(self.outlook_of(sight), ())
        for row in self.barred:
            if sieve.lets(row, row):
                return False
        return True

    def lessened(self, sight, at):
        """A sight that settles with only those rows of one part that it needs, and those that cannot be left out."""
        free = free_rows(sight, at)
        fixed = [row for row in sight[at] if row not in free]
        return with_rows(sight, at, [*fixed, *self.needed(sight, at, fixed, free)])

    def needed(self, sight, at, kept, free):
        """Of some rows of one part, which settle beside those that are kept, so many that none can be left out."""
        if self.settles(with_rows(sight, at, kept)):
            return []
        if len(free) == 1:
            return free
        half = len(free) // 2
        back = self.needed(sight, at, [*kept, *free[:half]], free[half:])
        return [*self.needed(sight, at, [*kept, *back], free[:half]), *back]


def free_rows(sight, at):
    """The list of the rows of one part of a sight that can be left out alone: a link of a row told whole cannot."""
    if at != LINKS:
        return list(sight[at])
    whole = {row: True for row in sight[CLOSED]}
    return [link for link in sight[LINKS] if link[:2] not in whole]


def with_rows(sight, at, rows):
    """A sight in which one part has just these rows."""
    return (*sight[:at], tuple(sorted(rows)), *sight[at + 1:])


def near_sight(outlook):
    """A sight without what is told of other nodes than the near ones, the asker and the thing."""
    nodes, links, closed, tags, numbers = outlook.sight
    near = {name: True for name in outlook.near}
    owners = outlook.facts.owners
    return (
        nodes,
        tuple([link for link in links if link[0] in near]),
        tuple([row for row in closed if row[0] in near]),
        tuple([row for row in tags if row[0] in owners]),
        tuple([row for row in numbers if row[0] in owners]),
    )


def with_own_nodes(sight, ask):
    """A sight with no other nodes than an ask's asker and thing and those in its links and in closed."""
    nodes, links, closed, tags, numbers = sight
    names = {name: True for name in (ask[0], ask[2])}
    for link in links:
        names[link[0]] = True
        names[link[2]] = True
    for row in closed:
        names[row[0]] = True
    return (tuple([node for node in nodes if node[0] in names]), links, closed, tags, numbers)
