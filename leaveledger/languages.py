"""The languages of walks."""

from leaveledger.errors import Unlike
from leaveledger.machines import machine, takes


class Language:
    """The words of a walk from an asker kind to an end."""

    def __init__(self, book, kind, walk, end):
        self.book = book
        self.kind = kind
        self.end = end
        self.least = machine(book, kind, walk, end)

    def __contains__(self, word):
        """Whether a tuple of letters is one of the words."""
        return takes(self.least, word)

    def __bool__(self):
        """Whether there is a word."""
        return self.least[1] is not None

    def inside(self, other):
        """Whether each word is one of another language; raises Unlike if that is one of another plan, kind or end."""
        if self.book.plan != other.book.plan or self.kind != other.kind or self.end != other.end:
            raise Unlike()
        return is_within(self.least, other.least)


def is_within(first, second):
    """Whether a least machine takes only words that another one takes, too."""
    known = {(0, 0): True}
    waiting = [(0, 0)]
    while waiting:
        state, other = waiting.pop()
        # From each state of a least machine some word goes on, so a letter that only the first one has leads to one.
        afters = {letter: after for letter, after in second[0][other]}
        for letter, after in first[0][state]:
            if letter not in afters:
                return False
            pair = (after, afters[letter])
            if pair not in known:
                known[pair] = True
                waiting.append(pair)
    return True
