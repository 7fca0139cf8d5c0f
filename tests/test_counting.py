"""How many words a machine takes, which ones, and how long they are [26]."""

import itertools
import random
import unittest

from leaveledger.books import Book
from leaveledger.counting import always_passed, count_words, extent, place_of, word_at, words_of
from leaveledger.machines import machine, takes
from leaveledger.reading import read
from tests import chance as by_chance
from tests.plain import Plain, all_words
from tests.samples import EXAMPLE, SMALL, TOWN

BOOK = Book(read(EXAMPLE))
SMALL_BOOK = Book(read(SMALL))
TOWN_BOOK = Book(read(TOWN))
IN, GOLD, KEEPS, WEARS = ("in", "team", ()), ("in", "team", ("gold",)), ("keeps", "paper", ()), ("wears", "auditor", ())
EMPTY = (((),), None)


def machine_of(text, kind="clerk", end="paper", book=BOOK):
    return machine(book, kind, read(f"walk w = {text} ;")[0][2], end)


SEES, GILT = machine_of("@sees"), machine_of("@gilt")
FEW = machine_of("in in[gold] keeps | keeps | in keeps")


class CountWordsTest(unittest.TestCase):
    def test_example(self):
        self.assertEqual([count_words(SEES, n) for n in range(6)], [0, 1, 2, 4, 8, 16])
        self.assertEqual([count_words(GILT, n) for n in range(6)], [0, 0, 1, 3, 7, 15])

    def test_all_lengths(self):
        for n in range(1, 61):
            self.assertEqual(count_words(SEES, n), 2 ** (n - 1))
            self.assertEqual(count_words(GILT, n), 2 ** (n - 1) - 1)

    def test_beyond_two_to_the_64(self):
        book = Book(read("asker a; group g; thing t; tag x on g; tag y on g; tag z on g; tie i from a g to g t; tie j from a g to g;"))
        found = machine_of("any* i", "a", "t", book)
        for n in (1, 17, 40, 60):
            self.assertEqual(count_words(found, n), 16 ** (n - 1))
        self.assertTrue(count_words(found, 60) > 2 ** 64)
        self.assertEqual(word_at(found, 60, 16 ** 59 - 1), (*[("j", "g", ("z",))] * 59, ("i", "t", ())))
        self.assertIsNone(word_at(found, 60, 16 ** 59))
        self.assertEqual(place_of(found, word_at(found, 60, 16 ** 58 + 7)), 16 ** 58 + 7)

    def test_few_words(self):
        self.assertEqual([count_words(FEW, n) for n in range(8)], [0, 1, 2, 2, 0, 0, 0, 0])
        self.assertEqual(count_words(FEW, 60), 0)

    def test_no_words(self):
        self.assertEqual([count_words(EMPTY, n) for n in range(61)], [0] * 61)


class WordsTest(unittest.TestCase):
    def check(self, found, words, most):
        """That a machine takes just these words among those with at most so many letters."""
        words = sorted(words, key=lambda word: (len(word), word))
        self.assertEqual(list(words_of(found, most)), words)
        for n in range(most + 1):
            row = [word for word in words if len(word) == n]
            self.assertEqual(count_words(found, n), len(row))
            self.assertEqual([word_at(found, n, at) for at in range(len(row))], row)
            self.assertIsNone(word_at(found, n, len(row)))
            self.assertIsNone(word_at(found, n, len(row) + 5))
            self.assertEqual([place_of(found, word) for word in row], list(range(len(row))))

    def test_example(self):
        self.assertEqual(list(words_of(SEES, 2)), [(KEEPS,), (IN, KEEPS), (GOLD, KEEPS)])
        self.assertEqual(list(words_of(GILT, 3)), [(GOLD, KEEPS), (IN, GOLD, KEEPS), (GOLD, IN, KEEPS), (GOLD, GOLD, KEEPS)])
        self.assertEqual(word_at(GILT, 3, 1), (GOLD, IN, KEEPS))
        self.assertEqual(place_of(GILT, (GOLD, IN, KEEPS)), 1)

    def test_few_words(self):
        words = [(KEEPS,), (IN, KEEPS), (GOLD, KEEPS), (IN, GOLD, KEEPS), (GOLD, GOLD, KEEPS)]
        self.check(FEW, words, 3)
        self.check(FEW, words, 7)
        self.assertEqual(list(words_of(FEW, 60)), words)
        self.assertEqual(list(words_of(FEW, 2)), words[:3])
        self.assertEqual(list(words_of(FEW, 0)), [])

    def test_no_words(self):
        self.check(EMPTY, [], 5)
        self.assertEqual(list(words_of(EMPTY, 60)), [])

    def test_each_word_of_a_length(self):
        for n in range(1, 8):
            words = [(*groups, KEEPS) for groups in itertools.product((IN, GOLD), repeat=n - 1)]
            self.assertEqual([word_at(SEES, n, at) for at in range(len(words))], words)
            self.assertEqual([place_of(SEES, word) for word in words], list(range(len(words))))

    def test_before_the_first_and_behind_the_last(self):
        self.assertIsNone(word_at(SEES, 0, 0))
        self.assertIsNone(word_at(SEES, 4, 8))
        self.assertIsNone(word_at(SEES, 4, -1))
        self.assertIsNone(word_at(GILT, 1, 0))
        self.assertIsNone(word_at(FEW, 4, 0))

    def test_tuples_that_are_no_words(self):
        for word in ((), (IN,), (KEEPS, KEEPS), (WEARS,), (IN, WEARS), (IN, GOLD, IN), (("in", "team", ("old",)), KEEPS),
                     (KEEPS, IN), ("in",), (("in", "team"), KEEPS), ((), KEEPS), (None,), (0, KEEPS), (IN, KEEPS, ())):
            self.assertIsNone(place_of(SEES, word), word)
            self.assertIsNone(place_of(GILT, word), word)
            self.assertIsNone(place_of(EMPTY, word), word)
        self.assertIsNone(place_of(GILT, (IN, KEEPS)))

    def test_against_all_words(self):
        chance = random.Random(81)
        plain = Plain(SMALL_BOOK.tree)
        for turn in range(60):
            walk = by_chance.fitting_walk(chance, 5, ("in", "keeps"), ("gold",), ("deep",))
            for end in ("paper", "boss"):
                words = [word for word in all_words(SMALL_BOOK, "clerk", end, 4) if plain.has_word(walk, word)]
                self.check(machine(SMALL_BOOK, "clerk", walk, end), words, 4)

    def test_several_last_letters(self):
        chance = random.Random(84)
        plain = Plain(TOWN_BOOK.tree)
        for text in ("any*", "tops*", "in? any", "any tops | tops keeps"):
            walk = read(f"walk w = {text} ;")[0][2]
            for kind, end in (("guest", "paper"), ("guest", "boss"), ("clerk", "paper")):
                words = [word for word in all_words(TOWN_BOOK, kind, end, 3) if plain.has_word(walk, word)]
                self.check(machine(TOWN_BOOK, kind, walk, end), words, 3)
        for turn in range(30):
            walk = by_chance.town_walk(chance, TOWN_BOOK)
            words = [word for word in all_words(TOWN_BOOK, "guest", "boss", 3) if plain.has_word(walk, word)]
            self.check(machine(TOWN_BOOK, "guest", walk, "boss"), words, 3)

    def test_far_beyond_the_longest_word(self):
        self.assertEqual(len(list(words_of(FEW, 10 ** 9))), 5)
        self.assertEqual(list(words_of(EMPTY, 10 ** 9)), [])

    def test_one_by_one(self):
        # There are 2 to the 59 words with 60 letters alone.
        words = words_of(SEES, 60)
        self.assertIs(iter(words), words)
        self.assertEqual([next(words) for _ in range(4)], [(KEEPS,), (IN, KEEPS), (GOLD, KEEPS), (IN, IN, KEEPS)])
        others = words_of(SEES, 60)
        self.assertEqual(next(others), (KEEPS,))
        self.assertEqual(next(words), (IN, GOLD, KEEPS))
        last = None
        for word in itertools.islice(words_of(SEES, 60), 3000):
            self.assertTrue(last is None or (len(last), last) < (len(word), word))
            self.assertIs(takes(SEES, word), True)
            last = word
        self.assertEqual(len(last), 12)

    def test_far_apart_lengths(self):
        ring = "table " + " | ".join(f"{at} in team [] {(at + 1) % 30}" for at in range(30)) + " | 29 keeps paper [] 39 final 39"
        found = machine_of(ring)
        self.assertEqual(list(words_of(found, 60)), [(*[IN] * 29, KEEPS), (*[IN] * 59, KEEPS)])
        self.assertEqual(list(words_of(found, 29)), [])


class ExtentTest(unittest.TestCase):
    def check_endless(self, found):
        word, head, ring, tail = extent(found)
        self.assertEqual(word, "endless")
        self.assertEqual([type(part) for part in (head, ring, tail)], [tuple] * 3)
        self.assertTrue(ring)
        for many in range(5):
            self.assertIs(takes(found, (*head, *ring * many, *tail)), True, (head, ring, tail))

    def test_no_words(self):
        self.assertIsNone(extent(EMPTY))

    def test_most(self):
        self.assertEqual(extent(FEW), ("most", 3))
        self.assertEqual(extent(machine_of("keeps")), ("most", 1))
        self.assertEqual(extent(machine_of("in{4} in{3} keeps")), ("most", 8))
        self.assertEqual(extent(machine_of("in in in keeps | keeps | in[gold] in[gold] in[gold] in[gold] keeps")), ("most", 5))

    def test_endless(self):
        for text in ("@sees", "@gilt", "in+ keeps", "keeps | in in (in in in)* keeps", "in[gold] (in[-gold] in)* keeps | keeps",
                     "in (in[gold] in[gold])+ keeps"):
            self.check_endless(machine_of(text))

    def test_rings_that_are_left_by_other_states(self):
        # Behind the ring there are states to which it leads, in front of it some that lead to it.
        self.check_endless(machine_of("in[gold] in[gold] (in in in[gold])+ in[-gold] in[-gold] in[-gold] keeps"))

    def test_by_chance(self):
        chance = random.Random(82)
        seen = {"most": 0, "endless": 0, None: 0}
        for turn in range(150):
            walk = by_chance.fitting_walk(chance, 5, ("in", "keeps"), ("gold",), ("deep",))
            found = machine(SMALL_BOOK, "clerk", walk, "paper")
            shown = extent(found)
            seen[shown and shown[0]] += 1
            if shown is None:
                self.assertEqual(found, EMPTY)
            elif shown[0] == "most":
                lengths = [n for n in range(len(found[0]) + 3) if count_words(found, n)]
                self.assertEqual(shown, ("most", max(lengths)))
                self.assertTrue(max(lengths) < len(found[0]))
            else:
                self.check_endless(found)
        self.assertTrue(min(seen.values()) > 10, seen)


class AlwaysPassedTest(unittest.TestCase):
    def test_example(self):
        self.assertEqual(always_passed(SEES), (KEEPS,))
        self.assertEqual(always_passed(GILT), (GOLD, KEEPS))

    def test_no_words(self):
        self.assertEqual(always_passed(EMPTY), ())

    def test_ascending_and_once(self):
        self.assertEqual(always_passed(machine_of("in[-gold] in[gold] in[-gold] in[gold] keeps")), (IN, GOLD, KEEPS))
        self.assertEqual(always_passed(machine_of("in[gold] in[-gold] keeps")), (IN, GOLD, KEEPS))

    def test_letters_of_some_words_alone(self):
        self.assertEqual(always_passed(machine_of("in[gold] keeps | in[-gold] keeps")), (KEEPS,))
        self.assertEqual(always_passed(machine_of("in[gold] in keeps | in in[gold] keeps")), (GOLD, KEEPS))
        self.assertEqual(always_passed(machine_of("(in[gold] in[-gold] | in[-gold] in+ in[gold]) keeps")), (IN, GOLD, KEEPS))

    def test_no_letter_is_in_all_words(self):
        self.assertEqual(always_passed(machine_of("keeps | in tops", book=TOWN_BOOK)), ())
        book = Book(read("asker a; group g; thing t; tie i from a to g t; tie j from a g to t;"))
        self.assertEqual(always_passed(machine_of("any*", "a", "t", book)), ())

    def test_against_all_words(self):
        chance = random.Random(83)
        plain = Plain(SMALL_BOOK.tree)
        for turn in range(80):
            walk = by_chance.fitting_walk(chance, 4, ("in", "keeps"), ("gold",), ("deep",))
            found = machine(SMALL_BOOK, "clerk", walk, "paper")
            words = [word for word in all_words(SMALL_BOOK, "clerk", "paper", 6) if plain.has_word(walk, word)]
            if len(found[0]) <= 6 and words:
                common = set(words[0]).intersection(*words)
                self.assertEqual(always_passed(found), tuple(sorted(common)), walk)


if __name__ == "__main__":
    unittest.main()
