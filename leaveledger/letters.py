"""The letters of a book, and the words that they make."""

from leaveledger.plans import Plan


def letters(book, standing):
    """The ascending tuple of the letters that are allowed after a standing."""
    return letters_after(Plan(book.plan), standing)


def letters_after(plan, standing):
    """The same for the plan of a book."""
    found = []
    for tie, row in plan.ties.items():
        for end in row[1]:
            for marks in plan.marks_to(end):
                if plan.allows(standing, (tie, end, marks)):
                    found.append((tie, end, marks))
    return tuple(sorted(found))


def is_word(book, kind, end, word):
    """Whether something is a word from an asker kind to a thing kind or a badge."""
    if not isinstance(word, tuple) or len(word) == 0:
        return False
    plan = Plan(book.plan)
    if plan.sort_of(kind) != "asker" or plan.sort_of(end) not in ("thing", "badge"):
        return False
    standing = (kind, ())
    for letter in word:
        # Behind a thing or a badge nothing is allowed, so only the last letter leads to one.
        if not is_letter_of(plan, letter) or not plan.allows(standing, letter):
            return False
        standing = letter[1:]
    return standing[0] == end


def is_letter_of(plan, letter):
    """Whether something has the form of a letter, with marks that its end can have."""
    if not isinstance(letter, tuple) or len(letter) != 3:
        return False
    tie, end, marks = letter
    return isinstance(tie, str) and isinstance(end, str) and marks in plan.marks_to(end)
