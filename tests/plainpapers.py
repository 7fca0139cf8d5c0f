"""What papers about all completions show, told once more and as simply as can be, to compare the program with."""

import itertools

from leaveledger.letters import letters
from leaveledger.places import Places
from leaveledger.sights import bare
from tests.plainjudges import ascends, is_row, is_set_of_places, kinds_of, standings, takes_ring


def named_kinds(sight):
    return {name: kind for name, kind, _ in sight[0]}


def told_links(sight):
    """The triples of a start, a letter and an end for the links of a sight."""
    nodes = {name: (kind, marks) for name, kind, marks in sight[0]}
    return [(start, (tie, *nodes.get(end, (end, ()))), end) for start, tie, end in sight[1]]


def told_sets(book, sight, ask, walk):
    """The set of places where a walk is after all told paths to each near node or badge."""
    places = Places(book, walk)
    sets = {ask[0]: {0}}
    while True:
        before = {name: set(found) for name, found in sets.items()}
        for start, letter, end in told_links(sight):
            if start in sets:
                sets[end] = sets.get(end, set()) | set(places(tuple(sorted(sets[start])), letter))
        if sets == before:
            return sets


def told_worths(book, sight, ask):
    asked = [name for line in book.plan if line[0] == "asked" for name in line[1]]
    found = {f"ask.{name}": worth for name, worth in zip(asked, ask[4])}
    found["now"] = ask[5]
    for name, number, worth in sight[4]:
        if name in (ask[0], ask[2]):
            found[("asker." if name == ask[0] else "thing.") + number] = worth
    return {term: worth for term, worth in found.items() if worth is not None}


def told_bounds(book, sight, ask, literals):
    found = []
    for atom, truth in literals:
        if atom[0] == "atmost":
            _, left, right, gap = atom
            found.append((left, right, gap) if truth else (right, left, -gap - 1))
    for term, worth in told_worths(book, sight, ask).items():
        found += [(term, "0", worth), ("0", term, -worth)]
    return found


def told_truth(book, sight, ask, atom):
    """The truth of a tag or a flag, None if it is not told."""
    if atom[0] == "flag":
        return ask[3][[name for line in book.plan if line[0] == "flag" for name in line[1]].index(atom[1])]
    told = [row[2] for row in sight[3] if row[:2] == (ask[0] if atom[1] == "asker" else ask[2], atom[2])]
    return told[0] if told else None


def end_of(sight, ask, atom):
    """The name of the end of an atom's walk, and the end of the letters that lead to it."""
    return (ask[2], named_kinds(sight)[ask[2]]) if atom[2] == "thing" else (atom[2], atom[2])


def near_steps(book, sight, ask, walks):
    """The pairs of a letter and the sets behind it for all that near nodes lead on to without being told."""
    sets = [told_sets(book, sight, ask, walk) for walk in walks]
    places = [Places(book, walk) for walk in walks]
    found = []
    for name, kind, marks in sight[0]:
        if name in sets[0] and kind not in kinds_of(book, "thing"):
            for letter in letters(book, (kind, marks)):
                if (name, letter[0]) not in sight[2]:
                    at = [tuple(sorted(told.get(name, ()))) for told in sets]
                    found.append((letter, [one(part, letter) for one, part in zip(places, at)]))
    return found


def closes(book, walks, goal, rows, steps):
    """Whether rows and steps lead only to rows, and to no end that only the first walk reads."""
    places = [Places(book, walk) for walk in walks]
    groups = kinds_of(book, "group")
    for row in rows:
        for letter in letters(book, row[:2]):
            steps = [*steps, (letter, [one(part, letter) for one, part in zip(places, (row[2], *row[3]))])]
    for letter, sets in steps:
        if letter[1] in groups and sets[0] != () and (*letter[1:], sets[0], tuple(sets[1:])) not in rows:
            return False
        if letter[1] == goal and wins(places, sets):
            return False
    return True


def wins(places, sets):
    """Whether the first of some walks is at a last place, and no other one is."""
    ended = [bool(set(part) & set(one.last)) for part, one in zip(sets, places)]
    return ended[0] and not any(ended[1:])


def are_rows(book, walks, rows):
    if type(rows) is not tuple:
        return False
    sizes = [Places(book, walk).size for walk in walks]
    for row in rows:
        if not (type(row) is tuple and len(row) == 4 and row[:2] in standings(book) and type(row[3]) is tuple):
            return False
        if len(row[3]) != len(walks) - 1 or not all(is_set_of_places(part, size) for part, size in zip((row[2], *row[3]), sizes)):
            return False
    return ascends(rows)


def rivals_of(literals, at):
    """The walks of the false literals with the same end as one literal."""
    return [atom[1] for atom, truth in literals if atom[0] == "walk" and not truth and atom[2] == literals[at][0][2]]


def takes_never(book, sight, ask, literals, paper):
    literals = [(book.written_cond(atom), truth) for atom, truth in literals]
    if is_row(paper, str, tuple) and paper[0] == "ring":
        return takes_ring(told_bounds(book, sight, ask, literals), paper[1])
    if not (is_row(paper, str, int) or is_row(paper, str, int, tuple)) or not 0 <= paper[1] < len(literals):
        return False
    atom, truth = literals[paper[1]]
    if paper[0] == "tag" and len(paper) == 2:
        return atom[0] in ("tag", "flag") and told_truth(book, sight, ask, atom) == (not truth)
    if len(paper) != 3 or atom[0] != "walk":
        return False
    name, goal = end_of(sight, ask, atom)
    if paper[0] == "path":
        return not truth and follows_path(book, sight, ask, atom[1], name, paper[2])
    walks = [atom[1], *rivals_of(literals, paper[1])]
    if paper[0] != "none" or not truth or not are_rows(book, walks, paper[2]):
        return False
    if told_sets(book, sight, ask, atom[1]).get(name, set()) & set(Places(book, atom[1]).last):
        return False
    return closes(book, walks, goal, paper[2], near_steps(book, sight, ask, walks))


def follows_path(book, sight, ask, walk, end, path):
    if not all(is_row(step, str, str) for step in path):
        return False
    name, at, places = ask[0], (0,), Places(book, walk)
    for tie, after in path:
        found = [letter for start, letter, goal in told_links(sight) if (start, letter[0], goal) == (name, tie, after)]
        if not found:
            return False
        name, at = after, places(at, found[0])
    return name == end and bool(set(at) & set(places.last))


def truth_by(cond, atoms, valuation):
    word = cond[0]
    if word == "not":
        return not truth_by(cond[1], atoms, valuation)
    if word in ("and", "or"):
        truths = [truth_by(part, atoms, valuation) for part in cond[1:]]
        return all(truths) if word == "and" else any(truths)
    return word == "always" or valuation[atoms.index(cond)]


def answer_for(book, frame, atoms, valuation, without=None):
    """The effect and the duties for truths of atoms, written out; a policy can be left out."""
    held = [line for line in book.flattened if line[0] in ("let", "bar") and line[1] != without and frame[0] in line[3]
            and frame[1] in line[4] and frame[2] in line[5] and truth_by(line[6], atoms, valuation)]
    top = max([line[2] for line in held], default=0)
    effects = {line[0] for line in held if line[2] == top}
    effect = "bar" if "bar" in effects else "let" if effects else "none"
    return effect, {duty for line in held if line[2] == top and line[0] == effect for duty in line[7]}


def is_yes(book, frame, atoms, valuation, without=None):
    return answer_for(book, frame, atoms, valuation, without)[0] == "let"


def claim_atoms(books, frame, claim):
    found = []
    cond = books[0].written_cond(claim[1]) if claim[0] in ("only", "if") else ("always",)
    for atom in [*[atom for book in books for atom in book.atoms(frame)], *leaves(cond)]:
        if atom not in found:
            found.append(atom)
    return found


def leaves(cond):
    if cond[0] in ("not", "and", "or"):
        return [atom for part in cond[1:] for atom in leaves(part)]
    return [] if cond[0] == "always" else [cond]


def breaks(books, frame, claim, atoms, valuation):
    """Whether truths of a claim's atoms break it."""
    word = claim[0]
    effect, duties = answer_for(books[0], frame, atoms, valuation)
    yes, other = effect == "let", is_yes(books[-1], frame, atoms, valuation)
    if word in ("only", "if"):
        stands = truth_by(books[0].written_cond(claim[1]), atoms, valuation)
        return yes and not stands if word == "only" else stands and not yes
    if word == "dead":
        return yes != is_yes(books[0], frame, atoms, valuation, claim[1])
    if word == "brings":
        return yes and claim[1] not in duties
    return {"never": yes, "within": yes and not other, "alike": yes != other}[word]


def covers(book, sight, ask, atoms, papers, breaking):
    """Whether papers are right for their parts, and each valuation that breaks something has all truths of a part."""
    if type(papers) is not tuple or not all(is_row(pair, tuple, tuple) for pair in papers):
        return False
    for part, paper in papers:
        if not all(is_row(row, int, bool) and 0 <= row[0] < len(atoms) for row in part):
            return False
        if not ascends([row[0] for row in part]) or len(set(row[0] for row in part)) != len(part):
            return False
        if not takes_never(book, sight, ask, [(atoms[number], truth) for number, truth in part], paper):
            return False
    for valuation in itertools.product((False, True), repeat=len(atoms)):
        if breaking(valuation) and not any(all(valuation[number] is truth for number, truth in part) for part, _ in papers):
            return False
    return True


def takes_sure(book, sight, ask, yes, papers):
    kinds = named_kinds(sight)
    frame = (kinds[ask[0]], ask[1], kinds[ask[2]])
    atoms = list(book.atoms(frame))
    return covers(book, sight, ask, atoms, papers, lambda valuation: is_yes(book, frame, atoms, valuation) is not yes)


def takes_claim(books, frame, claim, papers):
    atoms = claim_atoms(books, frame, claim)
    return covers(books[0], *bare(books[0], frame), atoms, papers, lambda valuation: breaks(books, frame, claim, atoms, valuation))


def link_choices(atoms):
    """The pairs of truths that each atom can have in a double valuation."""
    return [((False, False), (False, True), (True, True)) if atom[0] == "walk" else ((False, False), (True, True)) for atom in atoms]


def breaks_link_claim(book, frame, claim, atoms, row):
    before, after = [is_yes(book, frame, atoms, [pair[at] for pair in row]) for at in (0, 1)]
    return before and not after if claim[0] == "keeps" else after and not before


def takes_link_claim(book, frame, claim, papers):
    atoms = list(book.atoms(frame))
    choices = link_choices(atoms)
    if type(papers) is not tuple or not all(is_row(pair, tuple, tuple) for pair in papers):
        return False
    for part, paper in papers:
        if not all(is_row(row, int, bool, bool) and 0 <= row[0] < len(atoms) and row[1:] in choices[row[0]] for row in part):
            return False
        if not ascends([row[0] for row in part]) or len(set(row[0] for row in part)) != len(part):
            return False
        if not takes_link_paper(book, frame, claim[1], atoms, part, paper):
            return False
    for row in itertools.product(*choices):
        if breaks_link_claim(book, frame, claim, atoms, row):
            if not any(all(row[number] == (first, second) for number, first, second in part) for part, _ in papers):
                return False
    return True


def takes_link_paper(book, frame, ties, atoms, part, paper):
    sight, ask = bare(book, frame)
    firsts = [(atoms[number], first) for number, first, _ in part]
    if is_row(paper, str, tuple) and paper[0] == "ring":
        return takes_never(book, sight, ask, firsts, paper)
    if not is_row(paper, str, int, tuple) or not 0 <= paper[1] < len(part):
        return False
    number, first, second = part[paper[1]]
    if paper[0] == "none":
        return first and atoms[number][0] == "walk" and takes_never(book, sight, ask, firsts, paper)
    if paper[0] != "turn" or first or not second or atoms[number][0] != "walk":
        return False
    seconds = [(atoms[number], second) for number, _, second in part]
    walks = [atoms[number][1], *rivals_of(seconds, paper[1])]
    return turns_hold(book, frame, ties, walks, end_of(sight, ask, atoms[number])[1], paper[2])


def turns_hold(book, frame, ties, walks, goal, rows):
    if not all(type(row) is tuple and len(row) == 5 and type(row[2]) is bool for row in rows):
        return False
    if not all(are_rows(book, walks, (row[:2] + row[3:],)) for row in rows) or not ascends(rows) or len(set(rows)) != len(rows):
        return False
    if (frame[0], (), False, (0,), ((0,),) * (len(walks) - 1)) not in rows:
        return False
    places = [Places(book, walk) for walk in walks]
    for kind, marks, seen, at, others in rows:
        for letter in letters(book, (kind, marks)):
            sets = [one(part, letter) for one, part in zip(places, (at, *others))]
            after = (*letter[1:], seen or letter[0] in ties, sets[0], tuple(sets[1:]))
            if letter[1] in kinds_of(book, "group") and sets[0] != () and after not in rows:
                return False
            if letter[1] == goal and after[2] and wins(places, sets):
                return False
    return True
