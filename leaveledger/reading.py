"""Reading the tree of a text."""

from leaveledger.cursor import Cursor
from leaveledger.errors import BadTree
from leaveledger.readcond import take_cond
from leaveledger.readwalk import take_tests, take_walk
from leaveledger.tokens import tokens_of
from leaveledger.trees import is_tree

GREATEST_RANK = 99


def read(text):
    """The tree of a text; raises BadText, then BadTree."""
    cursor = Cursor(tokens_of(text))
    lines = []
    while cursor.word() != "":
        lines.append(take_line(cursor))
    tree = tuple(lines)
    if not is_tree(tree):
        raise BadTree()
    return tree


def take_line(cursor):
    """The line that stands at the cursor, and over its end."""
    word = cursor.take_one_of(list(LINES))
    take_parts = LINES[word]
    parts = take_parts(cursor)
    # Only a `let` has duties; a `bar` looks the same up to there.
    if word in ("let", "bar"):
        duties = cursor.take_names() if word == "let" and cursor.took("due") else ()
        parts = (*parts, duties)
    cursor.take(";")
    return (word, *parts)


def take_plain(cursor):
    """What stands behind a word that only declares names."""
    return (cursor.take_names(),)


def take_on(cursor):
    """What stands behind `tag` and `number`."""
    name = cursor.take_name()
    cursor.take("on")
    return (name, cursor.take_names())


def take_tie(cursor):
    """What stands behind `tie`."""
    name = cursor.take_name()
    cursor.take("from")
    kinds = cursor.take_names()
    cursor.take("to")
    return (name, kinds, cursor.take_names())


def take_never(cursor):
    """What stands behind `never`."""
    tie = cursor.take_name()
    cursor.take("[")
    tests = take_tests(cursor)
    cursor.take("to")
    cursor.take("[")
    return (tie, tests, take_tests(cursor))


def take_meaning(cursor):
    """The name and the equals sign behind `walk`, `when` and `role`."""
    name = cursor.take_name()
    cursor.take("=")
    return name


def take_walk_parts(cursor):
    """What stands behind `walk`."""
    name = take_meaning(cursor)
    return (name, take_walk(cursor))


def take_when_parts(cursor):
    """What stands behind `when`."""
    name = take_meaning(cursor)
    return (name, take_cond(cursor))


def take_role_parts(cursor):
    """What stands behind `role`."""
    name = take_meaning(cursor)
    return (name, cursor.take_names())


def take_gate(cursor):
    """What stands behind `gate`."""
    what = cursor.word()
    if what in ("node", "tag", "rule"):
        cursor.take(what)
    else:
        what = cursor.take_name()
    cursor.take("by")
    action = cursor.take_name()
    cursor.take("on")
    return (what, action, cursor.take_name())


def take_policy(cursor):
    """What stands behind `let` and `bar`, up to the condition."""
    name = cursor.take_name()
    cursor.take("rank")
    rank = cursor.take_number(0, GREATEST_RANK)
    askers = cursor.take_names()
    cursor.take("may")
    actions = take_actions(cursor)
    cursor.take("on")
    things = cursor.take_names()
    cursor.take("when")
    return (name, rank, askers, actions, things, take_cond(cursor))


def take_actions(cursor):
    """One or more names, each perhaps with an `@` in front, up to the word behind them."""
    found = [take_action(cursor)]
    while cursor.word() != "on":
        found.append(take_action(cursor))
    return tuple(found)


def take_action(cursor):
    """The name of an action, or of a role with an `@` in front."""
    mark = "@" if cursor.took("@") else ""
    name = cursor.take_name()
    return mark + name


LINES = {
    "asker": take_plain, "group": take_plain, "thing": take_plain, "badge": take_plain,
    "tag": take_on, "number": take_on, "flag": take_plain, "asked": take_plain,
    "action": take_plain, "duty": take_plain, "tie": take_tie, "never": take_never,
    "walk": take_walk_parts, "when": take_when_parts, "role": take_role_parts, "gate": take_gate,
    "let": take_policy, "bar": take_policy,
}
