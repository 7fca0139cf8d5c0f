"""Where the walks of atoms are in what is told of a world, and how they can go on from there."""

from leaveledger.closures import fewest_steps
from leaveledger.facts import Facts
from leaveledger.graphs import Graph
from leaveledger.rows import Rows
from leaveledger.searches import least_way


class Outlook:
    """A sight and a partial ask, as some atoms look at them."""

    def __init__(self, topic, sight, ask):
        self.topic = topic
        self.sight = sight
        self.ask = ask
        self.plan = topic.company.alphabet.plan
        self.facts = Facts(self.plan, sight, ask)
        self.graph = Graph(topic.book, (sight[0], sight[1], ()))
        self.whole_rows = {row: True for row in sight[2]}
        self.near = self.near_nodes()
        self.known_steps = {}
        self.known_places = {}
        self.known_ways = {}

    def near_nodes(self):
        """The names of the near nodes from which something can lead on."""
        found = {self.ask[0]: True}
        waiting = [self.ask[0]]
        while waiting:
            name = waiting.pop()
            for _, end in self.graph.links_of(name):
                if end not in found and self.graph.leads_on(end):
                    found[end] = True
                    waiting.append(end)
        return list(found)

    def is_closed(self, name, tie):
        """Whether a row is told whole."""
        return (name, tie) in self.whole_rows

    def end_of(self, number):
        """The name of the node or the badge at which the paths of an atom's walk are to end."""
        end = self.topic.rows[number][2]
        return self.ask[2] if end == "thing" else end

    def letter_end(self, number):
        """The end of the last letter of such paths: a kind or a badge."""
        end = self.end_of(number)
        return self.graph.standings[end][0] if end in self.graph.standings else end

    def fewest(self, number):
        """The fewest told steps to each pair of a node or a badge and a place of an atom's walk."""
        if number not in self.known_steps:
            places = self.topic.company.members[number]
            self.known_steps[number] = fewest_steps(self.graph, places, self.ask[0], None)
        return self.known_steps[number]

    def places_at(self, number, name):
        """The set of places where an atom's walk is after the told paths to a node or a badge, together."""
        if number not in self.known_places:
            found = {}
            for end, place in self.fewest(number):
                found.setdefault(end, []).append(place)
            self.known_places[number] = {end: tuple(sorted(places)) for end, places in found.items()}
        return self.known_places[number].get(name, ())

    def is_told(self, number):
        """Whether a told path fulfils an atom's walk."""
        return self.topic.company.has_last(number, self.places_at(number, self.end_of(number)))

    def way_beyond(self, number, rivals, ties):
        """A least way to fulfil an atom's walk and none of its rivals, and the rivals that were looked at; the way is
        None if there is none, whatever the other rivals are."""
        looked = ()
        while True:
            way = self.best_way(number, looked, ties)
            if way is None:
                return (None, looked)
            read = [rival for rival in rivals if self.reads(rival, way)]
            if not read:
                return (way, looked)
            # With few rivals there are few rows, so each one is looked at only when it is needed.
            looked = tuple(sorted([*looked, read[0]]))

    def best_way(self, number, rivals, ties):
        """The same for rivals that are all looked at; None if there is no way."""
        key = (number, rivals, ties)
        if key not in self.known_ways:
            self.known_ways[key] = least_way(self, number, rivals, ties)
        return self.known_ways[key]

    def reads(self, number, way):
        """Whether an atom's walk is fulfilled by a way, too."""
        _, name, word = way
        member = self.topic.company.members[number]
        places = self.places_at(number, name)
        for letter in word:
            places = member(places, letter)
        return self.topic.company.has_last(number, places)

    def rows_of(self, ats):
        """The rows of an atom's walk and its rivals for which no letter is needed."""
        return Rows(self.topic.company, ats, self.letter_end(ats[0]), ())

    def steps_near(self, rows):
        """For each letter with which near nodes lead on without being told, the letter and the row behind it."""
        found = []
        for name in self.near:
            sets = [self.places_at(at, name) for at in rows.ats]
            near_row = (*self.graph.standings[name], True, sets[0], tuple(sets[1:]))
            for letter, row in rows.after(near_row):
                if not self.is_closed(name, letter[0]):
                    found.append((letter, row))
        return found
