"""Why atoms cannot have some truths together where a part of a world is told, and the papers that show it."""

from leaveledger.facts import bound_of
from leaveledger.rows import Rows, without_seen
from leaveledger.shortest import shortest


class Finder:
    """Looks whether atoms can have first truths in a world of which a part is told, and second ones when links by some
    ties are put to it. For a single world both truths of each atom are the same.

    A finding is ("tag", number), ("path", number), ("ring", numbers, ring), ("none", number, rivals) or ("turn",
    number, rivals)."""

    def __init__(self, outlook, ties):
        self.outlook = outlook
        self.topic = outlook.topic
        self.ties = ties
        self.known_rings = {}

    def found(self, first, second):
        """A finding that the atoms cannot have these truths; None if they can."""
        for number, atom in enumerate(self.topic.rows):
            if self.outlook.facts.is_against(atom, first[number]):
                return ("tag", number)
        for number in self.topic.walks:
            if not second[number] and self.outlook.is_told(number):
                return ("path", number)
        ring = self.ring_of(first)
        return self.wayless(first, second) if ring is None else ring

    def ring_of(self, truths):
        """The finding that no worths are such as the literals about numbers tell; None if some are."""
        literals = [(self.topic.rows[number], truths[number]) for number in self.topic.bounds]
        key = tuple([truth for _, truth in literals])
        if key not in self.known_rings:
            self.known_rings[key] = self.outlook.facts.settled(literals)
        word, found = self.known_rings[key]
        if word == "least":
            return None
        bounds = [bound_of(atom, truth) for atom, truth in literals]
        return ("ring", tuple([number for number, bound in zip(self.topic.bounds, bounds) if bound in found]), found)

    def wayless(self, first, second):
        """The finding that some walk cannot be fulfilled without one of its rivals; None if each one can."""
        for number in self.walks_without_path(second):
            way, looked = self.way_for(number, first, second)
            if way is None:
                return ("none" if first[number] else "turn", number, looked)
        return None

    def least_ways(self, first, second):
        """For each walk that is fulfilled and that no told path fulfils, the atom's number and a least way."""
        return [(number, self.way_for(number, first, second)[0]) for number in self.walks_without_path(second)]

    def walks_without_path(self, truths):
        """The numbers of the atoms about walks that are fulfilled, but by no told path."""
        return [number for number in self.topic.walks if truths[number] and not self.outlook.is_told(number)]

    def way_for(self, number, first, second):
        """A least way for an atom's walk, None if there is none, and the rivals that were looked at."""
        ties = None if first[number] else self.ties
        rivals = self.topic.rivals_of(number, list(enumerate(first if first[number] else second)))
        return self.outlook.way_beyond(number, rivals, ties)


def numbers_in(finding):
    """The ascending list of the numbers of the atoms that a finding is about."""
    if finding[0] == "ring":
        return list(finding[1])
    return sorted(finding[1:2] if finding[0] in ("tag", "path") else (finding[1], *finding[2]))


def paper_of(finder, finding, numbers):
    """The paper of a finding, for literals about the atoms with these numbers."""
    word = finding[0]
    if word == "ring":
        return (word, finding[2])
    number = finding[1]
    at = numbers.index(number)
    if word == "tag":
        return (word, at)
    if word == "path":
        return (word, at, told_path(finder.outlook, number))
    ats = (number, *finding[2])
    if word == "none":
        rows = finder.outlook.rows_of(ats)
        return (word, at, without_seen(rows.closed(finder.outlook.steps_near(rows))))
    return (word, at, turn_rows(finder, ats))


def told_path(outlook, number):
    """The shortest told path that fulfils an atom's walk."""
    told = (outlook.sight[0], outlook.sight[1], ())
    walk = outlook.topic.rows[number][1]
    return shortest(outlook.topic.book, told, walk, outlook.ask[0], outlook.end_of(number))


def turn_rows(finder, ats):
    """The rows from the asker on, with seen."""
    outlook = finder.outlook
    rows = Rows(outlook.topic.company, ats, outlook.letter_end(ats[0]), finder.ties)
    first = rows.first(outlook.graph.standings[outlook.ask[0]][0], False)
    return tuple(sorted([first, *rows.closed(rows.after(first))]))
