"""Nodes by their kinds, with their tags and numbers, and queries about them."""


class Store:
    """Tables of the nodes of a world; nothing is known here of policies and of links."""

    def __init__(self, book, world):
        numbers = {}
        for name, number, worth in world[2]:
            numbers.setdefault(name, {})[number] = worth
        self.tables = {}
        for name, kind, tags in world[0]:
            self.tables.setdefault(kind, []).append((name, tags, numbers.get(name, {})))

    def sought(self, kind, query):
        """The ascending tuple of the names of the nodes of a kind for which a query is true."""
        return tuple([row[0] for row in self.tables.get(kind, []) if is_true(query, row)])

    def many(self, kind, query):
        """The number of these nodes."""
        return len(self.sought(kind, query))


def is_true(query, row):
    """Whether a query is true for a name with its tags and numbers."""
    name, tags, numbers = row
    word = query[0]
    if word == "not":
        return not is_true(query[1], row)
    if word == "and":
        return is_true(query[1], row) and is_true(query[2], row)
    if word == "or":
        return is_true(query[1], row) or is_true(query[2], row)
    if word == "tag":
        return query[1] in tags
    if word == "names":
        return name in query[1]
    if word == "between":
        return query[2] <= numbers[query[1]] <= query[3]
    if word == "gap":
        return numbers[query[1]] <= numbers[query[2]] + query[3]
    return word == "all"
