"""Which literals can stand together, told once more by words and by worlds, to compare the program with."""

from leaveledger.errors import BadWorld
from leaveledger.letters import letters
from leaveledger.worlds import world_of_any_size
from tests.plainjudges import kinds_of, numbers_of, standings, tags_of
from tests.plainpapers import end_of, told_bounds, told_links, told_truth


def told_words(sight, ask, most):
    """For each node or badge the words of the told paths to it with at most so many letters."""
    found = {ask[0]: {()}}
    longer = {(ask[0], ())}
    for _ in range(most):
        longer = {(end, (*word, letter)) for name, word in longer for start, letter, end in told_links(sight) if start == name}
        for end, word in longer:
            found.setdefault(end, set()).add(word)
    return found


def words_on(book, sight, name, goal, most):
    """The words with at most so many letters that lead from a told node to a goal and begin with what is not told."""
    kind, marks = [node[1:] for node in sight[0] if node[0] == name][0]
    groups = kinds_of(book, "group")
    found = []
    words = [(letter,) for letter in letters(book, (kind, marks)) if (name, letter[0]) not in sight[2]]
    for _ in range(most):
        found += [word for word in words if word[-1][1] == goal]
        words = [(*word, letter) for word in words if word[-1][1] in groups for letter in letters(book, word[-1][1:])]
    return found


def fewest_steps(book, plain, sight, ask, literals, at, most):
    """The fewest steps with which a true literal about a walk can be fulfilled, as far as words of so many letters go:
    None if it cannot, 0 if a told path does it."""
    atom = literals[at][0]
    name, goal = end_of(sight, ask, atom)
    told = told_words(sight, ask, most)
    if any(plain.has_word(atom[1], word) for word in told.get(name, ())):
        return 0
    rivals = [other[1] for other, truth in literals if other[0] == "walk" and not truth and other[2] == atom[2]]
    found = []
    for node, words in told.items():
        if node in [row[0] for row in sight[0]]:
            for last in words_on(book, sight, node, goal, most):
                lengths = [len(word) + len(last) for word in words if plain.has_word(atom[1], (*word, *last))]
                if lengths and not any(plain.has_word(rival, (*word, *last)) for rival in rivals for word in words):
                    found.append(min(lengths))
    return min(found) if found else None


def are_against(book, sight, ask, literals):
    """Whether the contrary of a literal about a tag or a flag is told."""
    return any(atom[0] in ("tag", "flag") and told_truth(book, sight, ask, atom) is (not truth) for atom, truth in literals)


def least_worths(book, sight, ask, literals):
    """The least worths of the terms of the bounds, None if there are none: from 0 on each one is raised as it must be."""
    bounds = told_bounds(book, sight, ask, literals)
    worths = {term: 0 for bound in bounds for term in bound[:2]}
    while True:
        low = [(right, worths[left] - gap) for left, right, gap in bounds if worths[left] > worths[right] + gap]
        if not low:
            return worths
        for term, worth in low:
            worths[term] = max(worths[term], worth)
        if worths.get("0", 0) > 0 or max(worths.values()) > 9999:
            return None


def completed_by_chance(chance, book, sight, ask, groups, links):
    """A completion in which so many further groups stand and so many further links are tried."""
    nodes = [(name, kind, marks) for name, kind, marks in sight[0]]
    free = [f"zz{at}" for at in range(999) if f"zz{at}" not in [node[0] for node in nodes]]
    kinds = [row for row in standings(book) if row[0] in kinds_of(book, "group")]
    nodes = [with_tags(chance, book, sight, node) for node in nodes] + [(name, *chance.choice(kinds)) for name in free[:groups]]
    ties = [line[1] for line in book.plan if line[0] == "tie"]
    names, ends = [node[0] for node in nodes], [node[0] for node in nodes] + kinds_of(book, "badge")
    found = {link: True for link in sight[1]}
    for _ in range(links):
        link = (chance.choice(names), chance.choice(ties), chance.choice(ends))
        try:
            world_of_any_size(book, nodes, [link], ())
        except BadWorld:
            continue
        if link[:2] not in sight[2]:
            found[link] = True
    told = {row[:2]: row[2] for row in sight[4]}
    numbers = [(name, number, told.get((name, number), chance.randint(0, 8)))
               for name, kind, _ in nodes for number in numbers_of(book, kind)]
    full = (*ask[:3], *[tuple(chance.choice(row) if part is None else part for part in ask[at])
                        for at, row in ((3, (True, False)), (4, range(8)))], chance.randint(0, 8) if ask[5] is None else ask[5])
    return world_of_any_size(book, nodes, list(found), numbers), full


def with_tags(chance, book, sight, node):
    name, kind, marks = node
    if kind in kinds_of(book, "group"):
        return node
    told = {row[1]: row[2] for row in sight[3] if row[0] == name}
    return (name, kind, tuple(sorted(tag for tag in tags_of(book, kind) if told.get(tag, chance.random() < 0.5))))


def sight_by_chance(chance, told, much):
    """A sight in which a part of what another one tells of links, rows, tags and numbers is told."""
    return (told[0], *[tuple(row for row in part if chance.random() < share) for part, share in zip(told[1:], much)])


def ask_by_chance(chance, ask):
    """A partial ask with a part of an ask."""
    flags, numbers = [tuple(chance.choice((None, part)) for part in ask[at]) for at in (3, 4)]
    return (*ask[:3], flags, numbers, chance.choice((None, ask[5])))
