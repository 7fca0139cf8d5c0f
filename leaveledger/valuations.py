"""Truths for some atoms, and parts of them."""


def valuations(many):
    """All valuations of so many atoms, those with the first atom False first, and so on."""
    found = [()]
    for _ in range(many):
        found = [(*row, truth) for row in found for truth in (False, True)]
    return found


def valuations_in(column, many):
    """The valuations of so many atoms for which a column has a bit."""
    return [row for at, row in enumerate(valuations(many)) if column >> at & 1]


def number_of(valuation):
    """How many valuations stand in front of one."""
    found = 0
    for truth in valuation:
        found = found * 2 + (1 if truth else 0)
    return found


def uncovered(choices, parts):
    """What one can choose for all of some atoms without choosing all of a part; choices has what there is to choose for
    each atom, and parts are dicts with what is chosen for some of their numbers."""
    if {} in parts:
        return []
    found = [((), [(max(part), part) for part in parts])]
    for number, row in enumerate(choices):
        longer = []
        for chosen, left in found:
            for choice in row:
                still = [pair for pair in left if pair[1].get(number, choice) == choice]
                if not any([last == number for last, _ in still]):
                    longer.append(((*chosen, choice), still))
        found = longer
    return [chosen for chosen, _ in found]
