"""How many words a least machine takes, which ones, and how long they are."""

from leaveledger.machines import state_after, takes
from leaveledger.trails import trail_to


def count_words(machine, n):
    """The number of the words with so many letters."""
    return counts_to(machine, n)[n][0]


def word_at(machine, n, at):
    """The word with so many letters that has just so many others in front of it; None if there is none."""
    counts = counts_to(machine, n)
    if not 0 <= at < counts[n][0]:
        return None
    word = []
    state = 0
    for left in range(n - 1, -1, -1):
        many = counts[left]
        for letter, after in machine[0][state]:
            if at < many[after]:
                break
            at -= many[after]
        word.append(letter)
        state = after
    return tuple(word)


def place_of(machine, word):
    """The number of the words of the same length in front of a word; None if it is not taken."""
    if not takes(machine, word):
        return None
    counts = counts_to(machine, len(word))
    found = 0
    state = 0
    for at, letter in enumerate(word):
        row = machine[0][state]
        state = state_after(row, letter)
        many = counts[len(word) - at - 1]
        found += sum([many[after] for other, after in row if other < letter])
    return found


def words_of(machine, n):
    """The words with at most so many letters, one after the other."""
    counts = [counts_of_none(machine)]
    for many in range(n + 1):
        # From where no word has so many letters none has more.
        if not any(counts[many]):
            return
        word = least_word(machine, counts, 0, many)
        while word is not None:
            yield word
            word = next_word(machine, counts, word)
        counts.append(counts_behind(machine, counts[many]))


def extent(machine):
    """How long words are: nothing if there are none, the most letters, or how they go on without an end."""
    rows, final = machine
    if final is None:
        return None
    order = ordered_states(rows)
    if len(order) == len(rows):
        return ("most", most_letters(rows, order)[final])
    state = state_on_ring(rows, order)
    head = () if state == 0 else way(rows, 0, state)
    return ("endless", head, way(rows, state, state), way(rows, state, final))


def always_passed(machine):
    """The ascending tuple of the letters that stand in every word."""
    rows, final = machine
    if final is None:
        return ()
    letters = sorted(set(way(rows, 0, final)))
    return tuple([letter for letter in letters if way(rows_without(rows, letter), 0, final) is None])


def counts_to(machine, n):
    """For each number of letters up to n, for each state, how many words so long lead from it to the final one."""
    counts = [counts_of_none(machine)]
    for many in range(n):
        counts.append(counts_behind(machine, counts[many]))
    return counts


def counts_of_none(machine):
    """The counts for no letters."""
    rows, final = machine
    return [1 if state == final else 0 for state in range(len(rows))]


def counts_behind(machine, counts):
    """The counts for one letter more."""
    return [sum([counts[after] for _, after in row]) for row in machine[0]]


def least_word(machine, counts, state, many):
    """The first word with so many letters that leads from a state to the final one; None if there is none."""
    if counts[many][state] == 0:
        return None
    word = []
    for left in range(many - 1, -1, -1):
        letter, state = [pair for pair in machine[0][state] if counts[left][pair[1]] > 0][0]
        word.append(letter)
    return tuple(word)


def next_word(machine, counts, word):
    """The next word with as many letters; None behind the last one."""
    states = [0]
    for letter in word:
        states.append(state_after(machine[0][states[-1]], letter))
    for at in range(len(word) - 1, -1, -1):
        left = len(word) - at - 1
        for letter, after in machine[0][states[at]]:
            if letter > word[at] and counts[left][after] > 0:
                return (*word[:at], letter, *least_word(machine, counts, after, left))
    return None


def ordered_states(rows):
    """The states to which no ring leads, each behind all those from which something leads to it."""
    many = [0 for _ in rows]
    for row in rows:
        for _, after in row:
            many[after] += 1
    found = [state for state in range(len(rows)) if many[state] == 0]
    at = 0
    while at < len(found):
        state = found[at]
        for _, after in rows[state]:
            many[after] -= 1
            if many[after] == 0:
                found.append(after)
        at += 1
    return found


def most_letters(rows, order):
    """The most letters with which each state is reached; order has the states behind those that lead to them."""
    most = [0 for _ in rows]
    for state in order:
        for _, after in rows[state]:
            most[after] = max(most[after], most[state] + 1)
    return most


def state_on_ring(rows, order):
    """A state from which a way leads back to it; order has the states to which no ring leads."""
    is_free = {state: True for state in order}
    fronts = {}
    for state, row in enumerate(rows):
        if state not in is_free:
            for _, after in row:
                fronts[after] = state
    # Each state to which a ring leads has one of these in front of it, so going back ends in a ring.
    state = list(fronts.values())[0]
    for _ in rows:
        state = fronts[state]
    return state


def way(rows, start, goal):
    """The letters of a shortest way, of one letter at least, from a state to a state; None if there is none."""
    came = {(start, False): None}
    waiting = [(start, False)]
    at = 0
    while at < len(waiting):
        place = waiting[at]
        for letter, after in rows[place[0]]:
            if (after, True) not in came:
                came[(after, True)] = (place, letter)
                waiting.append((after, True))
        at += 1
    return trail_to(came, (goal, True)) if (goal, True) in came else None


def rows_without(rows, letter):
    """The rows without a letter."""
    return [[pair for pair in row if pair[0] != letter] for row in rows]
