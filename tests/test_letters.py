"""Letters and words [15]."""

import itertools
import unittest

from leaveledger.books import Book
from leaveledger.letters import is_word, letters
from leaveledger.reading import read
from tests.samples import EXAMPLE

TEXT = """\
asker clerk guest ;
group team box ;
thing paper ;
badge auditor ;
tag gold on team clerk ;
tag old on team box ;
tag red on box paper ;
tag fine on clerk paper ;
tie in from clerk team to team box ;
tie keeps from clerk team box to paper auditor ;
tie holds from guest to box paper ;
tie up from box to box ;
never in [gold] to [-gold] ;
never in [old -gold] to [old] ;
never up [] to [red] ;
"""
BOOK = Book(read(TEXT))
TAGS = {"team": ("gold", "old"), "box": ("old", "red")}


def marks_of(kind):
    """All the marks that a group kind can have."""
    tags = TAGS[kind]
    return [marks for many in range(len(tags) + 1) for marks in itertools.combinations(tags, many)]


STANDINGS = [("clerk", ()), ("guest", ())] + [(kind, marks) for kind in TAGS for marks in marks_of(kind)]
TEAMS = [("in", "team", marks) for marks in ((), ("gold",), ("gold", "old"), ("old",))]
BOXES = [("in", "box", marks) for marks in ((), ("old",), ("old", "red"), ("red",))]
KEEPS = [("keeps", "auditor", ()), ("keeps", "paper", ())]


class Plain:
    """A book of which only what the document tells is known."""

    def __init__(self, tree):
        self.tree = tree
        self.flattened = tree
        self.plan = tuple(line for line in tree if line[0] not in ("walk", "when", "role", "gate", "let", "bar"))
        self.frames = ()


class LettersTest(unittest.TestCase):
    def check(self, standing, found):
        self.assertEqual(letters(BOOK, standing), tuple(sorted(found)))

    def test_example(self):
        book = Book(read(EXAMPLE))
        groups = (("in", "team", ()), ("in", "team", ("gold",)))
        ends = (("keeps", "paper", ()), ("wears", "auditor", ()))
        self.assertEqual(letters(book, ("clerk", ())), groups + ends)
        self.assertEqual(letters(book, ("team", ("gold",))), groups + ends)
        self.assertEqual(letters(book, ("guest", ())), groups)

    def test_after_askers(self):
        self.check(("clerk", ()), TEAMS + BOXES + KEEPS)
        self.check(("guest", ()), [("holds", end, marks) for _, end, marks in BOXES] + [("holds", "paper", ())])

    def test_after_groups(self):
        self.check(("team", ()), TEAMS + BOXES + KEEPS)
        gold = [letter for letter in TEAMS if "gold" in letter[2]]
        self.check(("team", ("gold",)), gold + KEEPS)
        self.check(("team", ("gold", "old")), gold + KEEPS)
        not_old = [letter for letter in TEAMS + BOXES if "old" not in letter[2]]
        self.check(("team", ("old",)), not_old + KEEPS)

    def test_never_is_about_groups_alone(self):
        plan = "asker a; group g; thing p; badge b; tag t on g; tie i from a g to g p b;"
        book = Book(read(plan + "never i [-t] to [t];"))
        ends = [("i", "b", ()), ("i", "p", ())]
        self.assertEqual(letters(book, ("a", ())), tuple(sorted([("i", "g", ()), ("i", "g", ("t",)), *ends])))
        self.assertEqual(letters(book, ("g", ())), tuple(sorted([("i", "g", ()), *ends])))
        self.assertEqual(letters(book, ("g", ("t",))), letters(book, ("a", ())))
        book = Book(read(plan + "never i [] to [];"))
        self.assertEqual(len(letters(book, ("a", ()))), 4)
        self.assertEqual(letters(book, ("g", ())), tuple(ends))
        self.assertTrue(is_word(book, "a", "p", (("i", "g", ()), ("i", "p", ()))))
        self.assertFalse(is_word(book, "a", "p", (("i", "g", ()), ("i", "g", ()), ("i", "p", ()))))

    def test_never_without_tests(self):
        for marks in marks_of("box"):
            self.check(("box", marks), [("up", "box", ()), ("up", "box", ("old",))] + KEEPS)

    def test_ascending_tuples_of_different_letters(self):
        for standing in STANDINGS:
            found = letters(BOOK, standing)
            self.assertIs(type(found), tuple)
            self.assertEqual(list(found), sorted(set(found)))

    def test_three_group_tags(self):
        book = Book(read("asker a; group g; tag z on g; tag y on g; tag x on a g; tie t from a to g;"))
        marks = [letter[2] for letter in letters(book, ("a", ()))]
        self.assertEqual(marks, [(), ("x",), ("x", "y"), ("x", "y", "z"), ("x", "z"), ("y",), ("y", "z"), ("z",)])

    def test_nothing_leads_on(self):
        book = Book(read("asker a b; group g; tie t from a to g;"))
        self.assertEqual(letters(book, ("b", ())), ())
        self.assertEqual(letters(book, ("g", ())), ())

    def test_what_a_book_is(self):
        for standing in STANDINGS:
            self.assertEqual(letters(Plain(read(TEXT)), standing), letters(BOOK, standing))
        self.assertTrue(is_word(Plain(read(TEXT)), "clerk", "paper", (("keeps", "paper", ()),)))

    def test_against_the_plain_meaning(self):
        ties = {line[1]: line[2:] for line in BOOK.tree if line[0] == "tie"}
        for kind, marks in STANDINGS:
            found = []
            for tie, (kinds, ends) in ties.items():
                for end in ends if kind in kinds else ():
                    for more in marks_of(end) if end in TAGS else [()]:
                        if end not in TAGS or kind not in TAGS or not self.is_barred(tie, marks, more):
                            found.append((tie, end, more))
            self.check((kind, marks), found)

    def is_barred(self, tie, marks, more):
        def passed(tags, tests):
            return all((tag in tags) is truth for tag, truth in tests)
        return any(line[0] == "never" and line[1] == tie and passed(marks, line[2]) and passed(more, line[3])
                   for line in BOOK.tree)


class WordsTest(unittest.TestCase):
    def check(self, expected, kind, end, *word):
        self.assertIs(is_word(BOOK, kind, end, tuple(word)), expected, word)

    def test_words(self):
        self.check(True, "clerk", "paper", KEEPS[1])
        self.check(True, "clerk", "auditor", KEEPS[0])
        self.check(True, "clerk", "paper", TEAMS[0], KEEPS[1])
        self.check(True, "clerk", "paper", TEAMS[1], TEAMS[2], TEAMS[1], KEEPS[1])
        self.check(True, "clerk", "paper", BOXES[2], ("up", "box", ("old",)), KEEPS[1])
        self.check(True, "guest", "paper", ("holds", "paper", ()))
        self.check(True, "guest", "auditor", ("holds", "box", ("red",)), KEEPS[0])
        self.check(True, "clerk", "paper", *[TEAMS[0]] * 500, KEEPS[1])

    def test_no_words(self):
        self.check(False, "clerk", "paper")
        self.check(False, "clerk", "paper", KEEPS[0])
        self.check(False, "clerk", "auditor", KEEPS[1])
        self.check(False, "clerk", "paper", TEAMS[0])
        self.check(False, "guest", "paper", KEEPS[1])
        self.check(False, "guest", "paper", TEAMS[0], KEEPS[1])
        self.check(False, "clerk", "paper", KEEPS[1], KEEPS[1])
        self.check(False, "clerk", "paper", KEEPS[0], KEEPS[1])
        self.check(False, "clerk", "paper", TEAMS[0], KEEPS[1], TEAMS[0])
        # Barred by `never` lines, behind an allowed beginning.
        self.check(False, "clerk", "paper", TEAMS[1], TEAMS[0], KEEPS[1])
        self.check(False, "clerk", "paper", TEAMS[1], BOXES[0], KEEPS[1])
        self.check(False, "clerk", "paper", TEAMS[3], BOXES[1], KEEPS[1])
        self.check(False, "clerk", "paper", BOXES[0], ("up", "box", ("red",)), KEEPS[1])
        self.check(False, "clerk", "paper", *[TEAMS[0]] * 500, TEAMS[1], TEAMS[0], KEEPS[1])

    def test_only_from_askers_to_things_and_badges(self):
        self.check(False, "team", "paper", KEEPS[1])
        self.check(False, "paper", "paper", KEEPS[1])
        self.check(False, "clerk", "team", TEAMS[0])

    def test_letters_that_are_none(self):
        for marks in (("old", "gold"), ("gold", "gold"), ("red",), ("fine",), ("paper",), ["gold"], "gold", None, True, 0,
                      (("gold",),), ("gold", None), (1,)):
            self.check(False, "clerk", "paper", ("in", "team", marks), KEEPS[1])
        for marks in (("fine",), ("red",), ("gold",), None, []):
            self.check(False, "clerk", "paper", ("keeps", "paper", marks))
        for end in ("clerk", "guest", "gold", "in", "view", "nothing", "zz0", None, 3, ("team",), []):
            self.check(False, "clerk", "paper", ("in", end, ()), KEEPS[1])
            self.check(False, "clerk", "paper", TEAMS[0], ("keeps", end, ()))
        for tie in ("up", "holds", "team", "any", "nothing", None, 0, True, ("keeps",), ["keeps"]):
            self.check(False, "clerk", "paper", (tie, "paper", ()))
        for letter in (None, True, 0, "keeps", (), ("keeps",), ("keeps", "paper"), ("keeps", "paper", (), ()),
                       ["keeps", "paper", ()]):
            self.check(False, "clerk", "paper", letter)
            self.check(False, "clerk", "paper", letter, KEEPS[1])
            self.check(False, "clerk", "paper", KEEPS[1], letter)

    def test_what_is_no_tuple_of_letters(self):
        deep = ()
        for _ in range(9):
            deep = (deep,)
        for thing in (None, True, False, 0, -99999, "", "keeps", [], [KEEPS[1]], KEEPS[1], ((KEEPS[1],),), deep, {}):
            self.assertIs(is_word(BOOK, "clerk", "paper", thing), False, thing)
            if thing != KEEPS[1]:
                self.assertIs(is_word(BOOK, "clerk", "paper", (thing,)), False, thing)

    def test_against_letters(self):
        ends = [letter for standing in STANDINGS for letter in letters(BOOK, standing)]
        ends += [("in", "team", ("old", "gold")), ("up", "team", ()), ("keeps", "box", ())]
        for word in itertools.product(sorted(set(ends)), repeat=2):
            for kind in ("clerk", "guest"):
                first, second = word
                expected = first in letters(BOOK, (kind, ())) and first[1] in TAGS
                expected = expected and second in letters(BOOK, first[1:]) and second[1] == "paper"
                self.check(expected, kind, "paper", *word)


if __name__ == "__main__":
    unittest.main()
