"""Reading tests and walks from a cursor."""

from leaveledger.names import is_name

LAST_PLACE = 39
MOST_TIMES = 4
SIGNS = {"*": "star", "+": "plus", "?": "maybe"}


def take_test(cursor):
    """The test that stands at the cursor."""
    truth = not cursor.took("-")
    return (cursor.take_name(), truth)


def take_tests(cursor):
    """The tests up to the bracket that ends them, and over it."""
    found = []
    while not cursor.took("]"):
        found.append(take_test(cursor))
    return tuple(found)


def take_walk(cursor):
    """The expression or the table that stands at the cursor."""
    if cursor.took("table"):
        return take_table(cursor)
    return take_alt(cursor)


def take_alt(cursor):
    """Sequences with strokes between them."""
    walk = take_seq(cursor)
    while cursor.took("|"):
        walk = ("or", walk, take_seq(cursor))
    return walk


def take_seq(cursor):
    """One or more bases with their signs, one behind the other."""
    walk = take_post(cursor)
    while begins_base(cursor.word()):
        walk = ("then", walk, take_post(cursor))
    return walk


def begins_base(word):
    """Whether a base can begin with this token."""
    return word in ("(", "@", "any") or is_name(word)


def take_post(cursor):
    """A base and the signs behind it."""
    walk = take_base(cursor)
    while cursor.word() in SIGNS or cursor.word() == "{":
        walk = take_sign(cursor, walk)
    return walk


def take_sign(cursor, walk):
    """The walk with the sign that stands at the cursor."""
    if cursor.took("{"):
        times = cursor.take_number(1, MOST_TIMES)
        cursor.take("}")
        return ("upto", walk, times)
    return (SIGNS[cursor.take_one_of(list(SIGNS))], walk)


def take_base(cursor):
    """What stands in parentheses, a named walk, or a step."""
    if cursor.took("("):
        walk = take_alt(cursor)
        cursor.take(")")
        return walk
    if cursor.took("@"):
        return ("named", cursor.take_name())
    tie = "any" if cursor.took("any") else cursor.take_name()
    if not cursor.took("["):
        return ("step", tie, ())
    # Brackets behind a step hold one test at least.
    first = take_test(cursor)
    return ("step", tie, (first, *take_tests(cursor)))


def take_table(cursor):
    """The table behind its word."""
    if cursor.word() == "final":
        moves = []
    else:
        moves = [take_move(cursor)]
    while moves and cursor.took("|"):
        moves.append(take_move(cursor))
    cursor.take("final")
    final = None if cursor.took("-") else cursor.take_number(0, LAST_PLACE)
    return ("table", tuple(moves), final)


def take_move(cursor):
    """A move of a table."""
    place = cursor.take_number(0, LAST_PLACE)
    tie = cursor.take_name()
    end = cursor.take_name()
    cursor.take("[")
    marks = () if cursor.word() == "]" else cursor.take_names()
    cursor.take("]")
    return (place, (tie, end, marks), cursor.take_number(0, LAST_PLACE))
