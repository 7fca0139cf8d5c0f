"""A place in the tokens of a text, which goes forward over what the grammar takes."""

from leaveledger.errors import BadText
from leaveledger.names import is_name, is_number


class Cursor:
    """Each method that takes something raises BadText if something else stands at the place."""

    def __init__(self, tokens):
        self.tokens = tokens
        self.at = 0

    def word(self):
        """The token at the place; no token is empty, so an empty string stands for the end."""
        return self.tokens[self.at] if self.at < len(self.tokens) else ""

    def took(self, word):
        """Go over this word if it stands here, and tell whether it did."""
        if self.word() != word:
            return False
        self.at += 1
        return True

    def take(self, word):
        """Go over this word."""
        if not self.took(word):
            raise BadText(self.at)

    def take_one_of(self, words):
        """Go over one of these words, and return it."""
        word = self.word()
        if word not in words:
            raise BadText(self.at)
        self.at += 1
        return word

    def take_name(self):
        """Go over a name, and return it."""
        word = self.word()
        if not is_name(word):
            raise BadText(self.at)
        self.at += 1
        return word

    def take_names(self):
        """Go over one or more names, and return the tuple of them."""
        found = [self.take_name()]
        while is_name(self.word()):
            found.append(self.take_name())
        return tuple(found)

    def take_number(self, least, most):
        """Go over a number within bounds, and return it."""
        word = self.word()
        if not is_number(word, most) or int(word) < least:
            raise BadText(self.at)
        self.at += 1
        return int(word)
