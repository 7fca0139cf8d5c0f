"""What judges may be passed instead of a right thing: junk, and right things with a part changed."""


def nested(deep, part=()):
    """A tuple within tuples, nested so deep."""
    for _ in range(deep - 1):
        part = (part,)
    return part


PARTS = (None, True, False, 0, 1, -1, 2, 39, 99999, -99999, "", "0", "zz0", "x", "node", (), ((),), (0,), (True,), ("x",))
JUNK = (
    *PARTS, nested(10), nested(10, "x"), nested(10, True), (None,), (0, 1), (1, 0), ((0, 0), (0, 0)), (("x", "x"),),
    ("x", ()), (("x", ()),), (("x", (0,)),), (("x", "x", 0),), ((0, True),), (((), ()),), ("zz0", "zz1"), ("", "", ""),
    (("x", (), (0,), ()),), (None, None), ((), (), ()), ((), (), (), (), ()), ((((), (), ()), ("x", "x", "x", (), (), 0))),
    tuple(range(50)), ("x",) * 60, (0, "x", None, True, ()), (((1, 2), (3, 4)), ((5, 6), (7, 8))),
)


def variants(thing):
    """All tuples that one gets by changing one part of a thing, at any depth: left out, twice, moved, or another one."""
    for part in PARTS:
        if not same(part, thing):
            yield part
    if not isinstance(thing, tuple):
        return
    for at, part in enumerate(thing):
        front, back = thing[:at], thing[at + 1:]
        yield front + back
        yield (*front, part, part, *back)
        if back and back[0] != part:
            yield (*front, back[0], part, *back[1:])
        for other in variants(part):
            yield (*front, other, *back)


def same(first, second):
    """Whether two things are equal and no truth is taken for a number."""
    return repr(first) == repr(second)


def some_variants(chance, thing, most):
    """At most so many of the variants, and all junk."""
    found = [other for other in variants(thing) if not same(other, thing)]
    return [*JUNK, *(found if len(found) <= most else chance.sample(found, most))]
