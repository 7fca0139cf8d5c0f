"""Words that tell two walks apart, and worlds of a single path."""

from leaveledger.languages import Language
from leaveledger.plans import Plan
from leaveledger.trails import trail_to


def path_world(book, kind, word):
    """The world of a single path with a word from an asker of a kind."""
    plan = Plan(book.plan)
    nodes = [("zz0", kind, ())]
    links = []
    for tie, end, marks in word:
        start = nodes[-1][0]
        if plan.sort_of(end) == "badge":
            links.append((start, tie, end))
        else:
            name = f"zz{len(nodes)}"
            nodes.append((name, end, marks))
            links.append((start, tie, name))
    numbers = [(name, number, 0) for name, end, _ in nodes for number in plan.numbers_of(end)]
    return (tuple(sorted(nodes)), tuple(sorted(links)), tuple(sorted(numbers)))


def parting(book, kind, walk, other, end):
    """The least word that is in the language of just one of two walks; None if there is none."""
    return machine_parting(Language(book, kind, walk, end).least, Language(book, kind, other, end).least)


def machine_parting(machine, other):
    """The least word that just one of two least machines takes; None if there is none."""
    # Pairs are met in the order of the least words that lead to them, so the first word found is the least one.
    came = {(0, 0): None}
    waiting = [(0, 0)]
    at = 0
    while at < len(waiting):
        pair = waiting[at]
        for letter, after in steps_of(machine, other, pair):
            if is_taken(machine, after[0]) != is_taken(other, after[1]):
                return (*trail_to(came, pair), letter)
            if after not in came:
                came[after] = (pair, letter)
                waiting.append(after)
        at += 1
    return None


def is_taken(machine, state):
    """Whether a machine takes the words that lead to a state; None stands for no state."""
    return state is not None and state == machine[1]


def steps_of(machine, other, pair):
    """For each letter that one of a pair of states has, ascending, the letter and the pair behind it."""
    afters = afters_of(machine, pair[0])
    other_afters = afters_of(other, pair[1])
    letters = sorted({**afters, **other_afters})
    return [(letter, (afters.get(letter), other_afters.get(letter))) for letter in letters]


def afters_of(machine, state):
    """The states behind a state, by letters; None has none."""
    return {} if state is None else {letter: after for letter, after in machine[0][state]}
