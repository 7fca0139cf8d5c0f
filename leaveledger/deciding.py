"""Ways through decision tables."""


def decide(table, valuation):
    """The value for a valuation, and the tuple of the atoms met on the way."""
    decider = Decider(table)
    looked = []
    while decider.wants is not None:
        looked.append(decider.wants)
        decider.told(valuation[decider.wants])
    return (decider.value, tuple(looked))


def worths_of(table, n):
    """For each leaf its value, and how many valuations of n atoms lead to it."""
    many = [0 for _ in table]
    many[-1] = 1 << n
    # Behind each node only nodes further front are met, and of its valuations one half goes each way.
    for at in range(len(table) - 1, -1, -1):
        if table[at][0] != "leaf":
            for after in table[at][1:]:
                many[after] += many[at] // 2
    return tuple([(row[1], many[at]) for at, row in enumerate(table) if row[0] == "leaf"])


class Decider:
    """The way through a decision table, step by step."""

    def __init__(self, table):
        self.table = table
        self.wants = None
        self.value = None
        self.go_to(len(table) - 1)

    def told(self, truth):
        """Go on with the truth of the atom that is wanted; at a leaf nothing changes."""
        if self.wants is not None:
            self.go_to(self.next_of(truth))

    def next_of(self, truth):
        """The number of the next node."""
        _, low, high = self.table[self.at]
        return high if truth else low

    def go_to(self, at):
        """Stand at the node of a number."""
        self.at = at
        row = self.table[at]
        if row[0] == "leaf":
            self.wants = None
            self.value = row[1]
        else:
            self.wants = row[0]
