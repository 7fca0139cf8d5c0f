"""The tokens of a text [7]."""

import unittest

from leaveledger.tokens import tokens_of


class TokensTest(unittest.TestCase):
    def check(self, text, *tokens):
        found = tokens_of(text)
        self.assertIs(type(found), tuple)
        self.assertEqual(found, tokens)

    def test_empty(self):
        self.check("")
        self.check(" ")
        self.check("\n")
        self.check("  \n \n\n  ")

    def test_runs(self):
        self.check("abc", "abc")
        self.check("abc123", "abc123")
        self.check("123abc", "123abc")
        self.check("0123", "0123")
        self.check("aBcXYZ09", "aBcXYZ09")
        self.check("asker clerk;", "asker", "clerk", ";")
        self.check("a1 1a 1 a", "a1", "1a", "1", "a")
        self.check("x" * 50, "x" * 50)

    def test_signs(self):
        self.check("in*[gold]", "in", "*", "[", "gold", "]")
        self.check("(a|b){3}+?", "(", "a", "|", "b", ")", "{", "3", "}", "+", "?")
        self.check("asker.level", "asker", ".", "level")
        self.check("@a-1", "@", "a", "-", "1")
        self.check("-3", "-", "3")
        self.check("a_b", "a", "_", "b")
        self.check("***", "*", "*", "*")

    def test_at_most(self):
        self.check("<=", "<=")
        self.check("a<=b", "a", "<=", "b")
        self.check("<", "<")
        self.check("=", "=")
        self.check("<<=", "<", "<=")
        self.check("<==", "<=", "=")
        self.check("=<", "=", "<")
        self.check("< =", "<", "=")
        self.check("<\n=", "<", "=")
        self.check("<=<=", "<=", "<=")
        self.check(">=", ">", "=")
        self.check("now<=0+3", "now", "<=", "0", "+", "3")

    def test_only_blanks_and_line_feeds_separate(self):
        self.check("a b\nc", "a", "b", "c")
        self.check("  a \n\n b  ", "a", "b")
        self.check("a\tb", "a", "\t", "b")
        self.check("a\rb\r\n", "a", "\r", "b", "\r")
        self.check("\t", "\t")
        self.check("a\u00a0b", "a", "\u00a0", "b")
        self.check("\x0b\x0c\x00", "\x0b", "\x0c", "\x00")

    def test_other_characters_are_single(self):
        self.check("\u00e4\u00f6", "\u00e4", "\u00f6")
        self.check("a\u00e4b", "a", "\u00e4", "b")
        self.check("1\u06612", "1", "\u0661", "2")
        self.check("#!\"$%&'/\\^~`,:", *"#!\"$%&'/\\^~`,:")
        self.check("\U0001f600x", "\U0001f600", "x")

    def test_same_again(self):
        text = "walk sees = in* keeps ;"
        first = tokens_of(text)
        tokens_of("other <= text")
        self.assertEqual(tokens_of(text), first)


if __name__ == "__main__":
    unittest.main()
