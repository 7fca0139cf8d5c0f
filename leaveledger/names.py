"""What names, fresh names, the numbers of a text, worths and gaps are."""

SMALL_LETTERS = "abcdefghijklmnopqrstuvwxyz"
DIGITS = "0123456789"

RESERVED = (
    "asker", "group", "thing", "badge", "tag", "number", "flag", "asked", "action", "duty",
    "tie", "never", "walk", "when", "role", "gate", "let", "bar", "on", "from", "to", "by",
    "is", "may", "rank", "due", "and", "or", "not", "always", "now", "ask", "any", "table",
    "final", "node", "rule",
)


def is_name(word):
    """Whether something is a name."""
    if not isinstance(word, str) or not 1 <= len(word) <= 8:
        return False
    if word[0] not in SMALL_LETTERS or word.startswith("zz") or word in RESERVED:
        return False
    return all([sign in SMALL_LETTERS or sign in DIGITS for sign in word])


def is_number(word, most):
    """Whether a token is a number of a text that is at most so great, which has no more than four digits."""
    if not 1 <= len(word) <= 4 or not all([sign in DIGITS for sign in word]):
        return False
    return (word == "0" or word[0] != "0") and int(word) <= most


def is_fresh(word):
    """Whether something is a fresh name."""
    return isinstance(word, str) and word.startswith("zz") and is_number(word[2:], 999)


def is_integer(number):
    """Whether something is an integer; True and False are none."""
    return isinstance(number, int) and not isinstance(number, bool)


def is_whole(number, low, high):
    """Whether something is an integer within bounds."""
    return is_integer(number) and low <= number <= high


def is_worth(number):
    """Whether something is a worth."""
    return is_whole(number, 0, 9999)


def is_gap(number):
    """Whether something is a gap."""
    return is_whole(number, -9999, 9999)


def is_names(words, least, most):
    """Whether something is a tuple of different names, so many at least and at most."""
    if not isinstance(words, tuple) or not least <= len(words) <= most:
        return False
    # A set may take only what is known to be a string.
    return all([is_name(word) for word in words]) and len(set(words)) == len(words)
