"""The beginnings of the words of combinations of walks."""

from leaveledger.companies import Company

FINAL = 1


class Beginnings:
    """The beginnings of words, those with the same letters allowed behind them and the same sets of places as one."""

    def __init__(self, book, kind, combination, walks, end):
        self.company = Company(book, walks)
        self.combination = combination
        self.end = end
        standing, sets = (kind, ()), tuple([(0,) for _ in walks])
        self.states = [(standing, sets), None]
        self.numbers = {self.key_of(standing, sets): 0}

    def state_rows(self):
        """For each state the pairs of a letter and the state behind it; FINAL is the state of whole words."""
        found = [self.pairs_of(0), []]
        while len(found) < len(self.states):
            found.append(self.pairs_of(len(found)))
        return found

    def pairs_of(self, state):
        """The pairs of a letter and the state behind it."""
        standing, sets = self.states[state]
        found = []
        for letter, after in self.company.steps_from(standing, sets):
            if letter[1] == self.end:
                truths = [self.company.has_last(at, places) for at, places in enumerate(after)]
                if is_combined(self.combination, truths):
                    found.append((letter, FINAL))
            elif self.company.leads_to_group(letter) and self.can_go_on(after):
                found.append((letter, self.state_of(letter[1:], after)))
        return found

    def can_go_on(self, sets):
        """Whether words that go on from sets of places may be words of the combination."""
        return chance_of(self.combination, [len(places) > 0 for places in sets]) is not False

    def key_of(self, standing, sets):
        """What standings with the same letters have in common, and the sets of places."""
        return (self.company.alphabet.class_of(standing), sets)

    def state_of(self, standing, sets):
        """The number of a state, a new one if it is met for the first time."""
        key = self.key_of(standing, sets)
        if key not in self.numbers:
            self.numbers[key] = len(self.states)
            self.states.append((standing, sets))
        return self.numbers[key]


def is_combined(combination, truths):
    """Whether a word is one of a combination with numbers of walks, for each walk whether the word is one of it."""
    word = combination[0]
    if word == "of":
        return truths[combination[1]]
    if word == "not":
        return not is_combined(combination[1], truths)
    parts = [is_combined(part, truths) for part in combination[1:]]
    return all(parts) if word == "both" else any(parts)


def chance_of(combination, alive):
    """Whether a word is one of a combination of walks of which some cannot have it: None if both may be."""
    word = combination[0]
    if word == "of":
        return None if alive[combination[1]] else False
    parts = [chance_of(part, alive) for part in combination[1:]]
    if word == "not":
        return None if parts[0] is None else not parts[0]
    settling = word == "either"
    if settling in parts:
        return settling
    return None if None in parts else not settling
