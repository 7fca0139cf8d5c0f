"""How a walk can be fulfilled where no told path fulfils it: by a row of further groups from a near node."""

from heapq import heappop, heappush

from leaveledger.trails import trail_to


def least_way(outlook, number, rivals, ties):
    """A way with the fewest steps to fulfil an atom's walk and none of its rivals, None if there is none. With ties
    that are not None only by a letter with one of these that is not told.

    A way is (steps, name, word): the steps of the whole path, the near node from which the further groups lead on,
    and their word. Among ways with as many steps it has the shortest word."""
    search = Search(outlook, (number, *rivals), ties)
    search.put_near()
    while search.waiting:
        way = search.step()
        if way is not None:
            return way
    return None


class Search:
    """Goes over ends of paths, those with fewer steps first, among these those with fewer steps that are not told."""

    def __init__(self, outlook, ats, ties):
        self.outlook = outlook
        self.company = outlook.topic.company
        self.ats = ats
        self.ties = ties
        self.goal = outlook.letter_end(ats[0])
        self.waiting = []
        # Each state is the near node, whether nothing is behind it, a standing, a place of the walk, the sets of
        # places of the rivals, and whether a letter that is needed has been read.
        self.states = []
        self.came = {}
        self.known = {}

    def put_near(self):
        """Put the near nodes, with each place where the walk is after the paths to them."""
        graph = self.outlook.graph
        for (name, place), steps in list(self.outlook.fewest(self.ats[0]).items()):
            if graph.leads_on(name):
                others = tuple([self.outlook.places_at(at, name) for at in self.ats[1:]])
                self.put(steps, 0, (name, True, graph.standings[name], place, others, self.ties is None), None)

    def put(self, steps, added, state, origin):
        """Put a state, behind the pair of the number of the one in front of it and the letter between them."""
        at = len(self.states)
        self.states.append(state)
        self.came[at] = origin
        heappush(self.waiting, (steps, added, at))

    def step(self):
        """Go on from the least state; the way, if one ends behind it."""
        steps, added, at = heappop(self.waiting)
        name, _, _, _, _, seen = self.states[at]
        for letter, sets in self.steps_behind(self.states[at]):
            is_seen = seen or letter[0] in self.ties
            if letter[1] == self.goal:
                if is_seen and self.is_beyond(sets):
                    return (steps + 1, name, (*trail_to(self.came, at), letter))
            elif self.company.leads_to_group(letter):
                for place in sets[0]:
                    state = (name, False, letter[1:], place, sets[1:], is_seen)
                    if self.is_new(state):
                        self.put(steps + 1, added + 1, state, (at, letter))
        return None

    def steps_behind(self, state):
        """For each letter that can follow without being told the letter and the sets of places after it."""
        name, is_near, standing, place, others, _ = state
        steps = self.company.steps_of(standing, self.ats, ((place,), *others))
        if not is_near:
            return steps
        return [(letter, sets) for letter, sets in steps if not self.outlook.is_closed(name, letter[0])]

    def is_new(self, state):
        """Whether nothing has been put from which the same words lead on, and note it."""
        _, _, standing, place, others, seen = state
        key = (self.company.alphabet.class_of(standing), place, others, seen)
        if key in self.known:
            return False
        self.known[key] = True
        return True

    def is_beyond(self, sets):
        """Whether the walk is at a last place, and none of its rivals."""
        truths = [self.company.has_last(at, places) for at, places in zip(self.ats, sets)]
        return truths[0] and not any(truths[1:])
