"""Truths for some atoms, and parts of them."""


def valuations(many):
    """All valuations of so many atoms, those with the first atom False first, and so on."""
    found = [()]
    for _ in range(many):
        found = [(*row, truth) for row in found for truth in (False, True)]
    return found


def valuations_in(column, many):
    """The valuations of so many atoms for which a column has a bit."""
    return [row for at, row in enumerate(valuations(many)) if column >> at & 1]


def uncovered(choices, parts):
    """What one can choose for all of some atoms without choosing all of a part; choices has what there is to choose for
    each atom, and parts are dicts with what is chosen for some of their numbers."""
    if {} in parts:
        return []
    found = [((), parts)]
    for number, row in enumerate(choices):
        longer = []
        for chosen, left in found:
            for choice in row:
                still = [part for part in left if part.get(number, choice) == choice]
                if not any([max(part) == number for part in still]):
                    longer.append(((*chosen, choice), [part for part in still if max(part) > number]))
        found = longer
    return [chosen for chosen, _ in found]
