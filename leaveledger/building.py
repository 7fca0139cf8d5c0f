"""Completions in which atoms have some truths, with further groups in a row for each way that is needed."""

from leaveledger.errors import TooMany

MOST_NODES = 400
FRESH_NAMES = 1000


def completion(outlook, truths, ways):
    """The world and the ask in which atoms have these truths, with the least worths; raises TooMany. Ways are pairs of
    an atom's number and a way to fulfil its walk, for all walks that are fulfilled, but by no told path."""
    rows = list(further_rows(outlook, ways).values())
    groups = [group for row in rows for group in row[0]]
    links = [link for row in rows for link in row[1]]
    given = Given(outlook, truths)
    world = (
        tuple(sorted([*[given.tagged(node) for node in outlook.sight[0]], *groups])),
        tuple(sorted({link: True for link in [*outlook.sight[1], *links]})),
        tuple(sorted(given.all_numbers())),
    )
    return (world, given.whole_ask())


def further_rows(outlook, ways):
    """The groups and the links of the row of each way, by what it is; raises TooMany."""
    different = {row_of_way(outlook, pair): True for pair in ways}
    if len(outlook.sight[0]) + sum([len(word) - 1 for _, word, _ in different]) > MOST_NODES:
        raise TooMany("node")
    told = {node[0]: True for node in outlook.sight[0]}
    free = [name for name in [f"zz{at}" for at in range(FRESH_NAMES)] if name not in told]
    found = {}
    at = 0
    for name, word, end in different:
        names = free[at:at + len(word) - 1]
        at += len(names)
        found[(name, word, end)] = further_row(name, word, names, end)
    return found


def row_of_way(outlook, pair):
    """From which node a way leads with which word to which end; equal ones have one row."""
    number, (_, name, word) = pair
    return (name, word, outlook.end_of(number))


def further_row(name, word, names, end):
    """The groups of these names, and the links that lead with a word from a node by them to an end."""
    groups = [(group, kind, marks) for group, (_, kind, marks) in zip(names, word)]
    links = [(start, letter[0], after) for start, letter, after in zip([name, *names], word, [*names, end])]
    return (groups, links)


class Given:
    """What is told of the nodes and of the ask, and what atoms with some truths tell besides."""

    def __init__(self, outlook, truths):
        self.plan = outlook.plan
        self.sight = outlook.sight
        self.ask = outlook.ask
        self.owners = outlook.facts.owners
        literals = list(zip(outlook.topic.rows, truths))
        self.true_flags = {atom[1]: truth for atom, truth in literals if atom[0] == "flag"}
        self.true_tags = {row[:2]: row[2] for row in self.sight[3]}
        for atom, truth in literals:
            if atom[0] == "tag":
                self.true_tags[(self.ask[0] if atom[1] == "asker" else self.ask[2], atom[2])] = truth
        _, worths = outlook.facts.settled([literal for literal in literals if literal[0][0] == "atmost"])
        self.worths = {term: worth for term, worth in worths}

    def tagged(self, node):
        """A told node with its tags."""
        name, kind, marks = node
        # Of groups no tags are told besides their marks.
        tags = [tag for tag in self.plan.tags_of(kind) if self.true_tags.get((name, tag), False)]
        return (name, kind, (*marks, *sorted(tags)))

    def all_numbers(self):
        """The triples of all numbers of the told nodes."""
        told = {row[:2]: row[2] for row in self.sight[4]}
        found = []
        for name, kind, _ in self.sight[0]:
            for number in self.plan.numbers_of(kind):
                least = self.worths.get(f"{self.owners.get(name)}.{number}", 0)
                found.append((name, number, told.get((name, number), least)))
        return found

    def whole_ask(self):
        """The ask with all its parts."""
        asker, action, thing, flags, worths, now = self.ask
        flags = [self.true_flags.get(flag, False) if truth is None else truth
                 for flag, truth in zip(self.plan.listed("flag"), flags)]
        worths = [self.worths.get(f"ask.{asked}", 0) if worth is None else worth
                  for asked, worth in zip(self.plan.listed("asked"), worths)]
        return (asker, action, thing, tuple(flags), tuple(worths), self.worths.get("now", 0) if now is None else now)
