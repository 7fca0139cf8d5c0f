"""Where the walks of a book lead, and what is let and barred, kept while a world changes."""

from leaveledger.answers import answer
from leaveledger.closures import fewest_steps
from leaveledger.deeds import done
from leaveledger.errors import BadAsk, NoName
from leaveledger.graphs import Graph
from leaveledger.places import Places
from leaveledger.plans import Plan
from leaveledger.sights import kinds_in


class Watch:
    """Keeps for followed askers the ends of each walk that the book names, and for noted asks the effect."""

    def __init__(self, book, world):
        self.book = book
        self.world = world
        self.asks = ()
        self.askers = ()
        self.plan = Plan(book.plan)
        self.walks = {line[1]: Places(book, ("named", line[1])) for line in book.tree if line[0] == "walk"}
        self.known_ends = {}
        self.effects = {}

    def follow(self, asker):
        """Keep the ends of an asker from now on; raises NoName."""
        if self.plan.sort_of(kinds_in(self.world).get(asker, "")) != "asker":
            raise NoName(asker)
        if asker not in self.known_ends:
            self.known_ends[asker] = self.ends_in(Graph(self.book, self.world), asker)
            self.askers = tuple(sorted(self.known_ends))

    def ends(self, asker, name):
        """The ascending tuple of the things and badges to which a walk leads from a followed asker; raises NoName."""
        if asker not in self.known_ends:
            raise NoName(asker)
        if name not in self.walks:
            raise NoName(name)
        return self.known_ends[asker][name]

    def note(self, ask):
        """Keep the effect of the answer of an ask from now on; raises BadAsk."""
        effect = answer(self.book, self.world, ask)[0]
        if ask not in self.effects:
            self.effects[ask] = effect
            self.asks = tuple(sorted(self.effects))

    def change(self, deed):
        """Do a deed; the ends that came, those that went, and the asks whose effect turned. Raises BadDeed."""
        world = done(self.book, self.world, deed)
        # What is not linked to the node that the deed is about cannot tell what has changed.
        touched = names_before(self.world, deed[1])
        turned = self.turned_in(world, [ask for ask in self.asks if ask[0] in touched or ask[2] == deed[1]])
        came, went = self.moved_in(world, [asker for asker in self.askers if asker in touched])
        self.world = world
        for ask, _, effect in turned:
            if effect == "gone":
                del self.effects[ask]
            else:
                self.effects[ask] = effect
        self.asks = tuple(sorted(self.effects))
        self.askers = tuple(sorted(self.known_ends))
        return (came, went, turned)

    def tried(self, deeds):
        """Which effects would have turned if some deeds were done one after the other; raises BadDeed."""
        world = self.world
        for deed in deeds:
            world = done(self.book, world, deed)
        return self.turned_in(world, self.asks)

    def turned_in(self, world, asks):
        """For each of some asks whose effect is another one in a world the ask, and the effects before and now."""
        found = []
        for ask in asks:
            effect = effect_in(self.book, world, ask)
            if effect != self.effects[ask]:
                found.append((ask, self.effects[ask], effect))
        return tuple(found)

    def moved_in(self, world, askers):
        """Keep the ends that some askers have in a world; the ends that came and those that went."""
        graph = Graph(self.book, world)
        came = []
        went = []
        for asker in askers:
            before = self.known_ends.pop(asker)
            now = {name: () for name in before}
            if graph.leads_on(asker):
                now = self.ends_in(graph, asker)
                self.known_ends[asker] = now
            for name in before:
                came.extend([(asker, name, end) for end in now[name] if end not in before[name]])
                went.extend([(asker, name, end) for end in before[name] if end not in now[name]])
        return (tuple(sorted(came)), tuple(sorted(went)))

    def ends_in(self, graph, asker):
        """The things and badges to which each walk leads from an asker."""
        return {name: ends_of_walk(graph, places, asker) for name, places in self.walks.items()}


def ends_of_walk(graph, places, asker):
    """The ascending tuple of the things and badges to which a walk leads from an asker."""
    found = fewest_steps(graph, places, asker, None)
    return tuple(sorted({end for end, place in found if place in places.last and not graph.leads_on(end)}))


def effect_in(book, world, ask):
    """The effect of the answer of an ask in a world; `gone` if it does not fit there any more."""
    try:
        return answer(book, world, ask)[0]
    except BadAsk:
        return "gone"


def names_before(world, name):
    """A name and the names of all nodes from which links lead to it, as the keys of a dict."""
    starts = {}
    for start, _, end in world[1]:
        starts.setdefault(end, []).append(start)
    found = {name: True}
    waiting = [name]
    while waiting:
        end = waiting.pop()
        for start in starts.get(end, []):
            if start not in found:
                found[start] = True
                waiting.append(start)
    return found
