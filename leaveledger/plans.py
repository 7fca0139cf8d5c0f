"""What the plan of a book tells of kinds, badges, tags, numbers, ties and asks."""


class Plan:
    """The lines of a book's plan, kept by the names that they are about."""

    def __init__(self, lines):
        self.sorts = {}
        self.lists = {}
        self.tags = {}
        self.numbers = {}
        self.ties = {}
        self.nevers = {}
        for line in lines:
            self.learn(line)

    def learn(self, line):
        """Take in what a line tells."""
        word = line[0]
        if word in ("asker", "group", "thing", "badge"):
            for name in line[1]:
                self.sorts[name] = word
        elif word in ("flag", "asked", "action"):
            self.lists[word] = (*self.listed(word), *line[1])
        elif word == "tag":
            for kind in line[2]:
                self.tags[kind] = (*self.tags_of(kind), line[1])
        elif word == "number":
            for kind in line[2]:
                self.numbers[kind] = (*self.numbers_of(kind), line[1])
        elif word == "tie":
            self.ties[line[1]] = (line[2], line[3])
        elif word == "never":
            self.nevers[line[1]] = (*self.nevers_of(line[1]), (line[2], line[3]))

    def sort_of(self, name):
        """The word of the line that declares a kind or a badge; an empty string for another name."""
        return self.sorts.get(name, "")

    def listed(self, word):
        """The names that the lines with the word `flag`, `asked` or `action` declare, in order."""
        return self.lists.get(word, ())

    def tags_of(self, kind):
        """The tags that a kind can have."""
        return self.tags.get(kind, ())

    def numbers_of(self, kind):
        """The numbers that a kind has."""
        return self.numbers.get(kind, ())

    def has_row(self, kind, tie):
        """Whether links of a tie can lead from nodes of a kind."""
        return tie in self.ties and kind in self.ties[tie][0]

    def nevers_of(self, tie):
        """The pairs of tests of the `never` lines of a tie."""
        return self.nevers.get(tie, ())

    def marks_to(self, end):
        """All marks that a letter to this end can have."""
        found = [()]
        if self.sort_of(end) == "group":
            for tag in sorted(self.tags_of(end)):
                found = found + [(*marks, tag) for marks in found]
        return found

    def is_standing(self, kind, marks):
        """Whether something is an asker kind without marks, or a group kind with marks that it can have."""
        return isinstance(kind, str) and self.sort_of(kind) in ("asker", "group") and marks in self.marks_to(kind)

    def allows(self, standing, letter):
        """Whether a letter is allowed after a standing; its marks are such that its end can have them."""
        kind, marks = standing
        tie, end, end_marks = letter
        kinds, ends = self.ties.get(tie, ((), ()))
        if kind not in kinds or end not in ends:
            return False
        if self.sort_of(kind) != "group" or self.sort_of(end) != "group":
            return True
        bars = [passes(marks, tests) and passes(end_marks, others) for tests, others in self.nevers_of(tie)]
        return not any(bars)


def passes(tags, tests):
    """Whether a set of tags passes tests."""
    return all([(tag in tags) == truth for tag, truth in tests])
