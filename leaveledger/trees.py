"""Whether something has the form of a book's tree; what its names mean is not looked at."""

from leaveledger.names import is_gap, is_name, is_names, is_whole

MOST_LINES = 60
MOST_LISTED = 8
MOST_TESTS = 3
MOST_DUTIES = 4
MOST_MARKS = 3
MOST_MOVES = 200
LAST_PLACE = 39
DEEPEST = 12


def is_tree(tree):
    """Whether something has the form of a tree, whatever it is and however deep."""
    if not isinstance(tree, tuple) or len(tree) > MOST_LINES:
        return False
    return all([is_line(line) for line in tree])


def is_worded(row):
    """Whether something is a tuple that begins with a word."""
    return isinstance(row, tuple) and len(row) > 0 and isinstance(row[0], str)


def is_list(names):
    """Whether something is a list of names as lines have them."""
    return is_names(names, 1, MOST_LISTED)


def is_line(line):
    """Whether something is a line of a tree."""
    if not is_worded(line) or line[0] not in LINES:
        return False
    fits = LINES[line[0]]
    return fits(line)


def is_plain_line(line):
    """Whether behind a word that only declares names such names stand."""
    return len(line) == 2 and is_list(line[1])


def is_listed_line(line):
    """Whether behind `tag`, `number` or `role` a name and a list of names stand."""
    return len(line) == 3 and is_name(line[1]) and is_list(line[2])


def is_tie_line(line):
    """Whether behind `tie` stands what belongs there."""
    return len(line) == 4 and is_name(line[1]) and is_list(line[2]) and is_list(line[3])


def is_never_line(line):
    """Whether behind `never` stands what belongs there."""
    return len(line) == 4 and is_name(line[1]) and is_tests(line[2]) and is_tests(line[3])


def is_walk_line(line):
    """Whether behind `walk` stands what belongs there."""
    return len(line) == 3 and is_name(line[1]) and is_walk(line[2])


def is_when_line(line):
    """Whether behind `when` stands what belongs there."""
    return len(line) == 3 and is_name(line[1]) and is_cond(line[2], DEEPEST)


def is_gate_line(line):
    """Whether behind `gate` stands what belongs there."""
    if len(line) != 4 or not is_name(line[2]) or not is_name(line[3]):
        return False
    return line[1] in ("node", "tag", "rule") or is_name(line[1])


def is_policy_line(line):
    """Whether behind `let` or `bar` stands what belongs there."""
    if len(line) != 8 or not is_name(line[1]) or not is_whole(line[2], 0, 99):
        return False
    if not is_list(line[3]) or not is_actions(line[4]) or not is_list(line[5]):
        return False
    most_duties = MOST_DUTIES if line[0] == "let" else 0
    return is_cond(line[6], DEEPEST) and is_names(line[7], 0, most_duties)


def is_actions(words):
    """Whether something is a tuple of the names of actions, and of roles with an `@` in front."""
    if not isinstance(words, tuple) or not 1 <= len(words) <= MOST_LISTED:
        return False
    return all([is_action(word) for word in words]) and len(set(words)) == len(words)


def is_action(word):
    """Whether something is a name, or a name with an `@` in front."""
    if not isinstance(word, str):
        return False
    return is_name(word) or word.startswith("@") and is_name(word[1:])


def is_tests(pairs):
    """Whether something is a tuple of tests of different tags."""
    if not isinstance(pairs, tuple) or len(pairs) > MOST_TESTS:
        return False
    if not all([is_test(pair) for pair in pairs]):
        return False
    return len(set([tag for tag, _ in pairs])) == len(pairs)


def is_test(pair):
    """Whether something is the test of a tag."""
    return isinstance(pair, tuple) and len(pair) == 2 and is_name(pair[0]) and isinstance(pair[1], bool)


def is_walk(walk):
    """Whether something is an expression or a table."""
    return is_expression(walk, DEEPEST) or is_table(walk)


def is_expression(walk, deepest):
    """Whether something is an expression that is nested at most so deep."""
    # Only what is not too deep is looked into, so the depth of what stands there does no harm.
    if deepest == 0 or not is_worded(walk):
        return False
    word = walk[0]
    if word == "step":
        return len(walk) == 3 and (walk[1] == "any" or is_name(walk[1])) and is_tests(walk[2])
    if word == "named":
        return len(walk) == 2 and is_name(walk[1])
    if word == "upto":
        return len(walk) == 3 and is_expression(walk[1], deepest - 1) and is_whole(walk[2], 1, 4)
    if word in ("star", "plus", "maybe"):
        return len(walk) == 2 and is_expression(walk[1], deepest - 1)
    if word not in ("then", "or") or len(walk) != 3:
        return False
    return is_expression(walk[1], deepest - 1) and is_expression(walk[2], deepest - 1)


def is_table(walk):
    """Whether something is a table that is a walk."""
    if not is_worded(walk) or walk[0] != "table" or len(walk) != 3:
        return False
    moves = walk[1]
    if not isinstance(moves, tuple) or len(moves) > MOST_MOVES:
        return False
    return all([is_move(move) for move in moves]) and (walk[2] is None or is_place(walk[2]))


def is_move(move):
    """Whether something is a move of a table."""
    if not isinstance(move, tuple) or len(move) != 3:
        return False
    return is_place(move[0]) and is_letter(move[1]) and is_place(move[2])


def is_place(place):
    """Whether something is a place of a table."""
    return is_whole(place, 0, LAST_PLACE)


def is_letter(letter):
    """Whether something has the form of a letter."""
    if not isinstance(letter, tuple) or len(letter) != 3:
        return False
    tie, end, marks = letter
    if not is_name(tie) or not is_name(end) or not is_names(marks, 0, MOST_MARKS):
        return False
    return list(marks) == sorted(marks)


def is_cond(cond, deepest):
    """Whether something is a condition that is nested at most so deep."""
    if deepest == 0 or not is_worded(cond):
        return False
    word = cond[0]
    if word == "not":
        return len(cond) == 2 and is_cond(cond[1], deepest - 1)
    if word in ("and", "or"):
        return len(cond) == 3 and is_cond(cond[1], deepest - 1) and is_cond(cond[2], deepest - 1)
    if word == "always":
        return len(cond) == 1
    if word in ("named", "flag"):
        return len(cond) == 2 and is_name(cond[1])
    if word == "tag":
        return len(cond) == 3 and cond[1] in ("asker", "thing") and is_name(cond[2])
    if word == "walk":
        return len(cond) == 3 and is_name(cond[1]) and (cond[2] == "thing" or is_name(cond[2]))
    if word != "atmost" or len(cond) != 4:
        return False
    return is_term(cond[1]) and is_term(cond[2]) and is_gap(cond[3])


def is_term(word):
    """Whether something is a term of a comparison."""
    if not isinstance(word, str):
        return False
    owner, _, name = word.partition(".")
    return word in ("now", "0") or owner in ("asker", "thing", "ask") and is_name(name)


LINES = {
    "asker": is_plain_line, "group": is_plain_line, "thing": is_plain_line, "badge": is_plain_line,
    "tag": is_listed_line, "number": is_listed_line, "flag": is_plain_line, "asked": is_plain_line,
    "action": is_plain_line, "duty": is_plain_line, "tie": is_tie_line, "never": is_never_line,
    "walk": is_walk_line, "when": is_when_line, "role": is_listed_line, "gate": is_gate_line,
    "let": is_policy_line, "bar": is_policy_line,
}
