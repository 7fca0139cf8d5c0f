"""The tokens of a text."""

RUN_SIGNS = "abcdefghijklmnopqrstuvwxyzABCDEFGHIJKLMNOPQRSTUVWXYZ0123456789"


def tokens_of(text):
    """The tuple of the tokens of a text."""
    found = []
    at = 0
    while at < len(text):
        end = token_end(text, at)
        if text[at] not in " \n":
            found.append(text[at:end])
        at = end
    return tuple(found)


def token_end(text, at):
    """The place behind the longest token that begins at a place."""
    if text[at:at + 2] == "<=":
        return at + 2
    end = at
    while end < len(text) and text[end] in RUN_SIGNS:
        end += 1
    return max(end, at + 1)
