"""Reading conditions from a cursor."""

OWNERS = ("asker", "thing", "ask")
GREATEST_GAP = 9999


def take_cond(cursor):
    """Conditions with `or` between them."""
    cond = take_and(cursor)
    while cursor.took("or"):
        cond = ("or", cond, take_and(cursor))
    return cond


def take_and(cursor):
    """Conditions with `and` between them."""
    cond = take_not(cursor)
    while cursor.took("and"):
        cond = ("and", cond, take_not(cursor))
    return cond


def take_not(cursor):
    """A condition with `not` in front, one in parentheses, or an atom."""
    if cursor.took("not"):
        return ("not", take_not(cursor))
    if cursor.took("("):
        cond = take_cond(cursor)
        cursor.take(")")
        return cond
    return take_atom(cursor)


def take_atom(cursor):
    """A condition that has no words between conditions in it."""
    if cursor.took("always"):
        return ("always",)
    if cursor.took("@"):
        return ("named", cursor.take_name())
    if cursor.took("by"):
        return take_path(cursor)
    if cursor.word() not in OWNERS:
        return take_rest(cursor, take_term(cursor))
    owner = cursor.take_one_of(OWNERS)
    if not cursor.took("is"):
        return take_rest(cursor, take_owned(cursor, owner))
    name = cursor.take_name()
    return ("flag", name) if owner == "ask" else ("tag", owner, name)


def take_path(cursor):
    """What stands behind `by`."""
    name = cursor.take_name()
    cursor.take("to")
    end = "thing" if cursor.took("thing") else cursor.take_name()
    return ("walk", name, end)


def take_term(cursor):
    """A term of a comparison."""
    word = cursor.take_one_of((*OWNERS, "now", "0"))
    return take_owned(cursor, word) if word in OWNERS else word


def take_owned(cursor, owner):
    """The term that goes on behind its owner."""
    cursor.take(".")
    name = cursor.take_name()
    return f"{owner}.{name}"


def take_rest(cursor, left):
    """The comparison that goes on behind its first term."""
    cursor.take("<=")
    right = take_term(cursor)
    return ("atmost", left, right, take_gap(cursor))


def take_gap(cursor):
    """The gap that stands at the cursor, 0 if none does."""
    if cursor.took("+"):
        return cursor.take_number(0, GREATEST_GAP)
    if cursor.took("-"):
        return -cursor.take_number(0, GREATEST_GAP)
    return 0
