"""The grammar of [8] as data, and how far a row of tokens is the beginning of a text of it.

It is written on its own, in another way than the program (as sets of items), to compare the program with it.
"""

import re

RESERVED = set((
    "asker group thing badge tag number flag asked action duty tie never walk when role gate let bar on from to by "
    "is may rank due and or not always now ask any table final node rule"
).split())


def is_name(token):
    return bool(re.fullmatch(r"(?!zz)[a-z][a-z0-9]{0,7}", token)) and token not in RESERVED


def number(low, high):
    def fits(token):
        return bool(re.fullmatch(r"0|[1-9][0-9]{0,3}", token)) and low <= int(token) <= high
    return fits


TERMINALS = {
    "NAME": is_name, "NUMBER": number(0, 9999), "RANK": number(0, 99), "TIMES": number(1, 4), "PLACE": number(0, 39),
}

# Each right side is a row of words; `X*` is any number of X, `X+` one or more, `X?` one or none. A word in
# capitals that is no terminal class is a rule; any other word stands in the text.
TEXT = """
BOOK = LINE*
LINE = PARTS ;
PARTS = PLAINWORD NAME+
PARTS = tag NAME on NAME+
PARTS = number NAME on NAME+
PARTS = tie NAME from NAME+ to NAME+
PARTS = never NAME TESTS to TESTS
PARTS = walk NAME = WALK
PARTS = when NAME = COND
PARTS = role NAME = NAME+
PARTS = gate WHAT by NAME on NAME
PARTS = let POLICY DUE?
PARTS = bar POLICY
POLICY = NAME rank RANK NAME+ may ACT+ on NAME+ when COND
DUE = due NAME+
ACT = AT? NAME
AT = @
WHAT = NAME
WHAT = node
WHAT = tag
WHAT = rule
TESTS = [ TEST* ]
TEST = MINUS? NAME
MINUS = -
WALK = ALT
WALK = TABLE
ALT = SEQ BARSEQ*
BARSEQ = | SEQ
SEQ = POST+
POST = BASE SIGN*
SIGN = *
SIGN = +
SIGN = ?
SIGN = { TIMES }
BASE = ( ALT )
BASE = @ NAME
BASE = TIE STEPTESTS?
TIE = NAME
TIE = any
STEPTESTS = [ TEST+ ]
TABLE = table MOVES? final FINAL
MOVES = MOVE BARMOVE*
BARMOVE = | MOVE
FINAL = PLACE
FINAL = -
MOVE = PLACE NAME NAME [ NAME* ] PLACE
COND = AND ORAND*
ORAND = or AND
AND = NOT ANDNOT*
ANDNOT = and NOT
NOT = not NOT
NOT = ( COND )
NOT = ATOM
ATOM = asker is NAME
ATOM = thing is NAME
ATOM = ask is NAME
ATOM = by NAME to END
ATOM = @ NAME
ATOM = always
ATOM = TERM <= TERM GAP?
END = thing
END = NAME
GAP = + NUMBER
GAP = - NUMBER
TERM = asker . NAME
TERM = thing . NAME
TERM = ask . NAME
TERM = now
TERM = 0
"""

PLAIN = ("asker", "group", "thing", "badge", "flag", "asked", "action", "duty")
SINGLE_SIGNS = ("*", "+", "?")


def made_rules():
    """For each rule the list of its right sides."""
    rules = {}
    for row in TEXT.strip().splitlines():
        left, right = row.split(" = ", 1)
        rules.setdefault(left, []).append(tuple(right.split(" ")))
    rules["PLAINWORD"] = [(word,) for word in PLAIN]
    for rights in list(rules.values()):
        for right in rights:
            for word in right:
                add_repeats(rules, word)
    return rules


def add_repeats(rules, word):
    """Add the rules for a word with a sign behind it."""
    if len(word) == 1 or word in rules:
        return
    inner, sign = word[:-1], word[-1]
    if sign == "*":
        rules[word] = [(), (word, inner)]
    elif sign == "+":
        rules[word] = [(inner,), (word, inner)]
    elif sign == "?":
        rules[word] = [(), (inner,)]


RULES = made_rules()


def fits(word, token):
    """Whether a token is what a word that is no rule stands for."""
    if word in TERMINALS:
        return TERMINALS[word](token)
    return word == token


def nullable_rules():
    """The rules that nothing can be."""
    found = set()
    while True:
        more = {left for left, rights in RULES.items() if any(all(w in found for w in right) for right in rights)}
        if more == found:
            return found
        found = more


NULLABLE = nullable_rules()


def closed(items, sets, at):
    """The items at a place with all that are predicted and completed from them."""
    todo = list(items)
    found = set(items)

    def put(item):
        if item not in found:
            found.add(item)
            todo.append(item)

    while todo:
        left, right, dot, origin = todo.pop()
        if dot < len(right):
            word = right[dot]
            if word in RULES:
                for other in RULES[word]:
                    put((word, other, 0, at))
                if word in NULLABLE:
                    put((left, right, dot + 1, origin))
            continue
        parents = found if origin == at else sets[origin]
        for other, row, place, begin in list(parents):
            if place < len(row) and row[place] == left:
                put((other, row, place + 1, begin))
    return found


def wrong_at(tokens):
    """None for a text of the grammar, otherwise the number of tokens in front of the first that cannot stand."""
    items = {("BOOK", right, 0, 0) for right in RULES["BOOK"]}
    sets = []
    for at in range(len(tokens) + 1):
        sets.append(closed(items, sets, at))
        if at == len(tokens):
            break
        items = {
            (left, right, dot + 1, origin) for left, right, dot, origin in sets[at]
            if dot < len(right) and right[dot] not in RULES and fits(right[dot], tokens[at])
        }
        if not items:
            return at
    done = any(item == ("BOOK", right, len(right), 0) for item in sets[-1] for right in RULES["BOOK"])
    return None if done else len(tokens)
