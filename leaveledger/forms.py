"""Forms of what judges are given."""


def is_ascending(things):
    """Whether each thing is less than the next one; the things are of one form, so that they can be compared."""
    return all([first < second for first, second in zip(things, things[1:])])


def is_ascending_names(names):
    """Whether something is an ascending tuple of different strings."""
    return isinstance(names, tuple) and all([isinstance(name, str) for name in names]) and is_ascending(names)


def is_pair(pair):
    """Whether something is a tuple of two parts."""
    return isinstance(pair, tuple) and len(pair) == 2


def is_name_pair(pair):
    """Whether something is a tuple of two strings."""
    return is_pair(pair) and isinstance(pair[0], str) and isinstance(pair[1], str)
