"""The least machine of a machine that reads no two ways with one letter."""


def least_machine(rows, final):
    """The least machine; rows has for each state ascending pairs of a letter and a state, and 0 is the first state."""
    live = live_states(rows, final)
    if 0 not in live:
        return (((),), None)
    trimmed = {state: [(letter, after) for letter, after in rows[state] if after in live] for state in live}
    return numbered(trimmed, classes_of(trimmed), final)


def live_states(rows, final):
    """The states from which a way leads to the final one, as the keys of a dict."""
    sources = [[] for _ in rows]
    for state, row in enumerate(rows):
        for _, after in row:
            sources[after].append(state)
    live = {final: True}
    waiting = [final]
    while waiting:
        after = waiting.pop()
        for state in sources[after]:
            if state not in live:
                live[state] = True
                waiting.append(state)
    return live


def classes_of(rows):
    """A number for each state, the same one for states from which the same words lead to the final state."""
    # Only from the final state nothing leads on, so by their letters it is told apart from all others.
    classes = grouped({state: tuple([letter for letter, _ in row]) for state, row in rows.items()})
    many = 0
    while many < many_of(classes):
        many = many_of(classes)
        signs = {state: (classes[state], *[classes[after] for _, after in row]) for state, row in rows.items()}
        classes = grouped(signs)
    return classes


def grouped(signs):
    """A number for each different sign, for each state that has it."""
    numbers = {}
    found = {}
    for state, sign in signs.items():
        found[state] = numbers.setdefault(sign, len(numbers))
    return found


def many_of(classes):
    """How many different numbers there are."""
    return len(set(list(classes.values())))


def numbered(rows, classes, final):
    """The machine with a state for each class, numbered as they are first met."""
    numbers = {classes[0]: 0}
    met = [0]
    found = []
    while len(found) < len(met):
        state = met[len(found)]
        row = []
        for letter, after in rows[state]:
            if classes[after] not in numbers:
                numbers[classes[after]] = len(met)
                met.append(after)
            row.append((letter, numbers[classes[after]]))
        found.append(tuple(row))
    return (tuple(found), numbers[classes[final]])
