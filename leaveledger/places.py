"""The places of a walk: how far a word has been read."""

from leaveledger.forms import is_ascending
from leaveledger.names import is_whole
from leaveledger.plans import passes


class Places:
    """The places of a walk; a call leads from a set of them, with a letter, to the next set."""

    def __init__(self, book, walk):
        written = book.written(walk)
        if written[0] == "table":
            self.ways, self.last, self.size = places_of_table(written)
        else:
            self.ways, self.last, self.size = places_of_expression(written)
        self.ways_by_letter = {}

    def __call__(self, at, letter):
        """The set of places where the walk is after a letter, from a set of places."""
        ways = self.ways_by(letter)
        found = {}
        for place in at:
            for after in ways.get(place, ()):
                found[after] = True
        return tuple(sorted(found))

    def ways_by(self, letter):
        """The places to which a letter leads from each place from which it leads on."""
        if letter not in self.ways_by_letter:
            found = {}
            for place, sign, after in self.ways:
                if can_read(sign, letter):
                    found.setdefault(place, []).append(after)
            self.ways_by_letter[letter] = found
        return self.ways_by_letter[letter]


def is_place_set(places, size):
    """Whether something is a set of places of a walk of this size."""
    if not isinstance(places, tuple) or not all([is_whole(place, 0, size) for place in places]):
        return False
    return is_ascending(places)


def can_read(sign, letter):
    """Whether a step reads a letter, or a sign of a table's move is about this letter."""
    if sign[0] == "letter":
        return sign[1] == letter
    _, tie, tests = sign
    return tie in ("any", letter[0]) and passes(letter[2], tests)


def places_of_table(table):
    """The ways of a table, its last places, and the greatest of its places."""
    _, moves, final = table
    ways = [(place, ("letter", letter), after) for place, letter, after in moves]
    last = () if final is None else (final,)
    size = max([0, *last, *[max(place, after) for place, _, after in moves]])
    return (ways, last, size)


def places_of_expression(walk):
    """The ways of an expression written out, its last places, and the number of its steps."""
    reader = StepReader()
    is_empty, firsts, lasts = reader.read(walk)
    reader.link([0], firsts)
    ways = [(place, reader.steps[after - 1], after) for place, after in reader.pairs]
    last = tuple([0, *lasts]) if is_empty else tuple(lasts)
    return (ways, last, len(reader.steps))


class StepReader:
    """Numbers the steps of an expression from left to right, and notes which can be read behind which."""

    def __init__(self):
        self.steps = []
        self.pairs = {}

    def read(self, walk):
        """Whether a part reads the empty word, and the steps with which it can begin and end, ascending."""
        word = walk[0]
        if word == "step":
            self.steps.append(walk)
            return (False, [len(self.steps)], [len(self.steps)])
        is_empty, firsts, lasts = self.read(walk[1])
        if word == "then":
            return self.read_behind(is_empty, firsts, lasts, walk[2])
        if word == "or":
            is_other_empty, other_firsts, other_lasts = self.read(walk[2])
            return (is_empty or is_other_empty, firsts + other_firsts, lasts + other_lasts)
        if word in ("star", "plus"):
            self.link(lasts, firsts)
        return (is_empty or word != "plus", firsts, lasts)

    def read_behind(self, is_empty, firsts, lasts, walk):
        """The same for a part that has been read and the one that stands behind it."""
        is_other_empty, other_firsts, other_lasts = self.read(walk)
        self.link(lasts, other_firsts)
        if is_empty:
            firsts = firsts + other_firsts
        if is_other_empty:
            other_lasts = lasts + other_lasts
        return (is_empty and is_other_empty, firsts, other_lasts)

    def link(self, lasts, firsts):
        """Note that each of the second places can be read directly behind each of the first ones."""
        for place in lasts:
            for after in firsts:
                self.pairs[(place, after)] = True
