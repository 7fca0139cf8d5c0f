"""What the lines of a tree declare."""


class Declared:
    """The names of a tree, each with the first line that declares it and the number of that line."""

    def __init__(self, tree):
        self.lines = {}
        self.places = {}
        for at, line in enumerate(tree):
            for name in declared_by(line):
                if name not in self.lines:
                    self.lines[name] = line
                    self.places[name] = at

    def sort_of(self, name):
        """What a declared name is: the word of its line, but `mark` for a group tag and `table` for such a walk."""
        line = self.lines[name]
        if line[0] == "tag" and any([self.is_group(kind) for kind in line[2]]):
            return "mark"
        if line[0] == "walk" and line[2][0] == "table":
            return "table"
        return line[0]

    def is_group(self, name):
        """Whether a name is a group kind, wherever it is declared."""
        return name in self.lines and self.lines[name][0] == "group"

    def declares(self, at, name):
        """Whether the line of this number is the one that declares the name."""
        return name in self.places and self.places[name] == at

    def is_above(self, at, name):
        """Whether a name is declared by a line above that of this number."""
        return name in self.places and self.places[name] < at

    def can_have(self, kind, name):
        """Whether a kind can have a tag or has a number of this name."""
        return kind in self.lines[name][2]


def declared_by(line):
    """The names that a line declares if none of them is declared already."""
    if line[0] in ("never", "gate"):
        return ()
    return (line[1],) if isinstance(line[1], str) else line[1]
