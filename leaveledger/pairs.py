"""What expressions mean in a world: from where they lead to where."""

from leaveledger.places import can_read


class Pairs:
    """Nodes and badges have numbers; the ends from one of them are the bits of an integer that it has in a row."""

    def __init__(self, book, graph):
        self.book = book
        names = {name: True for name in graph.standings}
        for start in graph.links:
            for _, end in graph.links_of(start):
                names[end] = True
        self.names = sorted(names)
        self.numbers = {name: at for at, name in enumerate(self.names)}
        self.walks = []
        self.kept_rows = []
        self.links = []
        for start in graph.links:
            for letter, end in graph.links_of(start):
                self.links.append((self.numbers[start], letter, self.numbers[end]))

    def ends(self, walk, name):
        """The ascending tuple of the ends to which an expression leads from a node."""
        if walk not in self.walks:
            self.walks.append(walk)
            self.kept_rows.append(self.rows_of(walk))
        found = self.kept_rows[self.walks.index(walk)][self.numbers[name]]
        return tuple([other for at, other in enumerate(self.names) if found >> at & 1])

    def rows_of(self, walk):
        """For each number the ends to which an expression leads."""
        word = walk[0]
        if word == "step":
            return self.rows_of_step(walk)
        if word == "named":
            return self.rows_of(self.book.written(walk))
        rows = self.rows_of(walk[1])
        if word == "then":
            return joined(rows, self.rows_of(walk[2]))
        if word == "or":
            return united(rows, self.rows_of(walk[2]))
        if word == "plus":
            return joined(rows, closed(rows))
        if word == "star":
            return closed(rows)
        return times(with_itself(rows), walk[2] if word == "upto" else 1)

    def rows_of_step(self, step):
        """For each number the ends to which a step leads."""
        rows = [0 for _ in self.names]
        for start, letter, end in self.links:
            if can_read(step, letter):
                rows[start] = rows[start] | (1 << end)
        return rows


def united(rows, others):
    """What leads on by the first ones or by the second ones."""
    return [row | other for row, other in zip(rows, others)]


def joined(rows, others):
    """What leads on by the first ones, and from there by the second ones."""
    return [gathered(row, others) for row in rows]


def gathered(ends, rows):
    """All ends that the rows of some ends have together."""
    found = 0
    while ends:
        at = ends.bit_length() - 1
        found = found | rows[at]
        ends = ends - (1 << at)
    return found


def with_itself(rows):
    """What leads on by these, and each number itself."""
    return [row | (1 << at) for at, row in enumerate(rows)]


def times(rows, many):
    """What leads on by these so many times."""
    found = rows
    for _ in range(many - 1):
        found = joined(found, rows)
    return found


def closed(rows):
    """What leads on by these any number of times, also not at all."""
    found = with_itself(rows)
    for at in range(len(found)):
        through = found[at]
        found = [row | through if row >> at & 1 else row for row in found]
    return found
