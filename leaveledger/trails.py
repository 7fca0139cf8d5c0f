"""By which steps a search came to where it is."""


def trail_to(came, thing):
    """The steps to a thing; came has for each thing the one in front of it and the step, and None for the first one."""
    found = []
    while came[thing] is not None:
        thing, step = came[thing]
        found.append(step)
    return tuple(found[::-1])
