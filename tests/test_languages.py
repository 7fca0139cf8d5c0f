"""Languages of walks [22]."""

import itertools
import random
import unittest

from leaveledger.books import Book
from leaveledger.errors import Unlike
from leaveledger.languages import Language
from leaveledger.machines import machine
from leaveledger.reading import read
from tests import chance as by_chance
from tests.plain import Plain, all_words
from tests.samples import EXAMPLE

BOOK = Book(read(EXAMPLE))
IN, GOLD, KEEPS, WEARS = ("in", "team", ()), ("in", "team", ("gold",)), ("keeps", "paper", ()), ("wears", "auditor", ())
TEXTS = ("@sees", "@gilt", "keeps", "in keeps", "in{2} keeps", "in in* keeps", "wears", "in", "in[-gold]* keeps", "any*",
         "in[gold]+ keeps", "table 0 keeps paper [] 1 final 1", "table final 0")


def walk_of(text):
    return read(f"walk w = {text} ;")[0][2]


def language_of(text, kind="clerk", end="paper", book=BOOK):
    return Language(book, kind, walk_of(text), end)


class LanguagesTest(unittest.TestCase):
    def test_least(self):
        for text, kind, end in itertools.product(TEXTS, ("clerk", "guest"), ("paper", "auditor")):
            self.assertEqual(language_of(text, kind, end).least, machine(BOOK, kind, walk_of(text), end))

    def test_words_in_it(self):
        gilt = language_of("@gilt")
        for word in ((GOLD, KEEPS), (IN, GOLD, KEEPS), (GOLD, IN, GOLD, KEEPS)):
            self.assertTrue(word in gilt)
            self.assertIs(gilt.__contains__(word), True)
        for word in ((), (KEEPS,), (IN, KEEPS), (GOLD,), (GOLD, KEEPS, KEEPS), (GOLD, WEARS), ((), KEEPS), (("in",), KEEPS)):
            self.assertFalse(word in gilt)
            self.assertIs(gilt.__contains__(word), False)
            self.assertTrue(word not in gilt)

    def test_bool(self):
        for text, kind, end, expected in (
            ("@sees", "clerk", "paper", True), ("@sees", "guest", "paper", True), ("keeps", "guest", "paper", False),
            ("@sees", "clerk", "auditor", False), ("wears", "clerk", "auditor", True), ("any*", "clerk", "auditor", True),
            ("in*", "clerk", "paper", False), ("table final 0", "clerk", "paper", False), ("keeps in", "clerk", "paper", False),
        ):
            self.assertIs(bool(language_of(text, kind, end)), expected, (text, kind, end))
            self.assertIs(language_of(text, kind, end).__bool__(), expected)

    def test_inside(self):
        inside = {("@gilt", "@sees"), ("keeps", "@sees"), ("in keeps", "@sees"), ("in keeps", "in{2} keeps"),
                  ("keeps", "in{2} keeps"), ("in{2} keeps", "@sees"), ("in in* keeps", "@sees"), ("in keeps", "in in* keeps"),
                  ("@gilt", "in in* keeps"), ("keeps", "in[-gold]* keeps"), ("in[-gold]* keeps", "@sees"),
                  ("in[gold]+ keeps", "@sees"), ("in[gold]+ keeps", "@gilt"), ("in[gold]+ keeps", "in in* keeps")}
        alike = (("@sees", "any*"), ("keeps", "table 0 keeps paper [] 1 final 1"))
        for first, second in alike:
            inside |= {(first, second), (second, first)}
            inside |= {(one, second) for one, other in inside if other == first}
            inside |= {(second, other) for one, other in inside if one == first}
        empty = ("wears", "in", "table final 0")
        for first, second in itertools.product(TEXTS, repeat=2):
            expected = first == second or first in empty or (first, second) in inside
            self.assertIs(language_of(first).inside(language_of(second)), expected, (first, second))

    def test_inside_against_all_words(self):
        chance = random.Random(41)
        plain = Plain(BOOK.tree)
        words = all_words(BOOK, "clerk", "paper", 6)
        many = 0
        for _ in range(150):
            first, second = [by_chance.fitting_walk(chance, 4, ("in", "keeps"), ("gold",), ("sees",)) for _ in range(2)]
            beyond = [word for word in words if plain.has_word(first, word) and not plain.has_word(second, word)]
            found = Language(BOOK, "clerk", first, "paper").inside(Language(BOOK, "clerk", second, "paper"))
            self.assertIs(found, not beyond, (first, second))
            many += found
        self.assertTrue(20 < many < 140, many)

    def test_unlike(self):
        sees = language_of("@sees")
        for other in (language_of("@sees", kind="guest"), language_of("@sees", end="auditor"), language_of("in", end="auditor"),
                      language_of("@sees", book=Book(read(EXAMPLE + "duty more;"))),
                      language_of("@sees", book=Book(read(EXAMPLE.replace("asker clerk guest", "asker guest clerk"))))):
            for first, second in ((sees, other), (other, sees)):
                with self.assertRaises(Unlike):
                    first.inside(second)

    def test_other_books_of_one_plan(self):
        book = Book(read(EXAMPLE.replace("walk sees = in* keeps ;", "walk sees = in keeps ; walk more = in* keeps;")
                         + "role r = view; when c = always; gate node by view on x; bar z rank 1 guest may @r on paper when @c;"))
        first, second = language_of("@sees"), language_of("@sees", book=book)
        self.assertIs(first.inside(second), False)
        self.assertIs(second.inside(first), True)
        self.assertIs(first.inside(language_of("@more", book=book)), True)

    def test_nothing_changes(self):
        first, second = language_of("@gilt"), language_of("@sees")
        before = (first.least, second.least)
        for _ in range(2):
            self.assertIs(first.inside(second), True)
            self.assertIs(second.inside(first), False)
            self.assertIs(first.inside(first), True)
            self.assertTrue((GOLD, KEEPS) in first and (KEEPS,) in second and first and second)
        self.assertEqual((first.least, second.least), before)


if __name__ == "__main__":
    unittest.main()
