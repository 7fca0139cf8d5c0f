"""Walks within walks, their tables, and what the judge says of tables [24]."""

import random
import unittest

from leaveledger.books import Book
from leaveledger.parting import parting
from leaveledger.places import Places
from leaveledger.reading import read
from leaveledger.within import judge_within, within
from tests import chance as by_chance
from tests.junk import some_variants
from tests.plain import Plain, all_words
from tests.plainjudges import takes_within
from tests.samples import EXAMPLE, SMALL

BOOK = Book(read(EXAMPLE))
SMALL_BOOK = Book(read(SMALL))
IN, GOLD, KEEPS, WEARS = ("in", "team", ()), ("in", "team", ("gold",)), ("keeps", "paper", ()), ("wears", "auditor", ())
SEES, GILT = ("named", "sees"), ("named", "gilt")
# The rows that are reached from a clerk by gilt (places 0 to 4) beside sees (places 0 to 2).
TABLE = (
    ("clerk", (), (0,), ((0,),)), ("team", (), (1,), ((1,),)), ("team", (), (1, 3), ((1,),)),
    ("team", ("gold",), (1, 2), ((1,),)), ("team", ("gold",), (1, 2, 3), ((1,),)),
)


def walk_of(text):
    return read(f"walk w = {text} ;")[0][2]


def judged(table, walk=GILT, walks=(SEES,), kind="clerk", end="paper", book=BOOK):
    return judge_within(book, kind, walk, walks, end, table)


class WithinTest(unittest.TestCase):
    def check(self, text, texts, word, kind="clerk", end="paper"):
        walk, walks = walk_of(text), tuple(walk_of(other) for other in texts)
        found = within(BOOK, kind, walk, walks, end)
        if word is not None:
            self.assertEqual(found, ("beyond", word), (text, texts))
            return
        self.assertEqual(found[0], "within", (text, texts, found))
        self.assertEqual(len(found), 2)
        self.check_table(BOOK, kind, walk, walks, end, found[1])

    def check_table(self, book, kind, walk, walks, end, table):
        company = [Places(book, other) for other in (walk, *walks)]
        self.assertIs(type(table), tuple)
        self.assertEqual(list(table), sorted(set(table)))
        for row in table:
            _, _, places, others = row
            for part, one in zip((places, *others), company):
                self.assertEqual(list(part), sorted(set(part)))
                self.assertTrue(all(0 <= place <= one.size for place in part))
            self.assertEqual(len(others), len(walks))
        self.assertIs(judge_within(book, kind, walk, walks, end, table), True)
        self.assertIs(takes_within(book, kind, walk, walks, end, table), True)

    def test_example(self):
        self.assertEqual(within(BOOK, "clerk", GILT, (SEES,), "paper"), ("within", TABLE))
        self.assertEqual(within(BOOK, "clerk", SEES, (GILT,), "paper"), ("beyond", (KEEPS,)))

    def test_no_walks(self):
        self.check("@sees", (), (KEEPS,))
        self.check("in+ keeps", (), (IN, KEEPS))
        self.check("in[gold] keeps", (), (GOLD, KEEPS))

    def test_an_empty_language(self):
        for text in ("in", "wears", "table final -", "in keeps in"):
            self.check(text, (), None)
            self.check(text, ("@sees",), None)
        self.check("keeps", (), None, kind="guest")
        self.check("@sees", (), None, end="auditor")
        self.assertEqual(within(BOOK, "clerk", walk_of("keeps"), (), "auditor"), ("within", (("clerk", (), (0,), ()),)))

    def test_one_walk(self):
        self.check("@gilt", ("@sees",), None)
        self.check("@sees", ("@sees",), None)
        self.check("@sees", ("in{2} keeps",), (IN, IN, IN, KEEPS))
        self.check("in[gold] in keeps", ("in[gold] in[gold] keeps",), (GOLD, IN, KEEPS))
        self.check("in* wears", ("any*",), None, end="auditor")
        self.check("any*", ("in+ wears",), (WEARS,), end="auditor")
        self.check("keeps?", ("keeps",), None)

    def test_several_walks(self):
        self.check("@sees", ("@gilt", "in[-gold]* keeps"), None)
        self.check("@sees", ("@gilt", "in[-gold]* in keeps"), (KEEPS,))
        self.check("@sees", ("keeps", "in[gold] keeps", "in[-gold] keeps", "in in+ keeps"), None)
        self.check("@sees", ("keeps", "in[gold] keeps", "in[-gold] keeps", "in in in+ keeps"), (IN, IN, KEEPS))
        self.check("in keeps", ("in[gold] keeps", "wears", "in[-gold] keeps", "in in keeps"), None)
        self.check("in keeps", ("in[gold] keeps", "wears", "in[gold] keeps", "in in keeps"), (IN, KEEPS))

    def test_the_fewest_letters_go_first(self):
        self.check("in in in keeps | in[gold] keeps", ("keeps",), (GOLD, KEEPS))
        self.check("in keeps", ("table 0 in team [] 1 | 1 keeps paper [] 2 final 2",), (GOLD, KEEPS))

    def test_rows_that_nothing_reads_are_left_out(self):
        found = within(BOOK, "clerk", walk_of("keeps"), (SEES,), "paper")
        self.assertEqual(found, ("within", (("clerk", (), (0,), ((0,),)),)))

    def test_empty_sets_of_others(self):
        found = within(BOOK, "clerk", walk_of("in keeps in"), (walk_of("keeps"),), "paper")
        self.assertEqual(found, ("within", (("clerk", (), (0,), ((0,),)), ("team", (), (1,), ((),)), ("team", ("gold",), (1,), ((),)))))

    def test_against_all_words(self):
        chance = random.Random(61)
        plain = Plain(SMALL_BOOK.tree)
        seen = {"within": 0, "beyond": 0}
        for turn in range(200):
            walk, *others = [by_chance.small_walk(chance, SMALL_BOOK) for _ in range(chance.randint(1, 4))]
            end = chance.choice(("paper", "boss"))
            words = [word for word in all_words(SMALL_BOOK, "clerk", end, 5) if plain.has_word(walk, word)]
            beyond = [word for word in words if not any(plain.has_word(other, word) for other in others)]
            word, found = within(SMALL_BOOK, "clerk", walk, tuple(others), end)
            seen[word] += 1
            if word == "within":
                self.assertEqual(beyond, [])
                self.check_table(SMALL_BOOK, "clerk", walk, tuple(others), end, found)
            elif len(found) <= 5:
                self.assertEqual(found, min(beyond, key=lambda other: (len(other), other)))
            else:
                self.assertEqual(beyond, [])
        self.assertTrue(min(seen.values()) > 30, seen)

    def test_both_ways_round_means_one_language(self):
        chance = random.Random(62)
        for turn in range(60):
            walks = [by_chance.fitting_walk(chance, 4, ("in", "keeps"), ("gold",), ("deep",)) for _ in range(2)]
            ways = [within(SMALL_BOOK, "clerk", walk, (other,), "paper") for walk, other in (walks, walks[::-1])]
            beyond = sorted([word for way, word in ways if way == "beyond"], key=lambda word: (len(word), word))
            self.assertEqual(parting(SMALL_BOOK, "clerk", *walks, "paper"), beyond[0] if beyond else None)


class JudgeTest(unittest.TestCase):
    def test_each_row_is_needed(self):
        self.assertIs(judged(TABLE), True)
        for at in range(len(TABLE)):
            self.assertIs(judged(TABLE[:at] + TABLE[at + 1:]), False, at)

    def test_rows_that_are_not_needed(self):
        for row in (("guest", (), (0,), ((0,),)), ("team", (), (), ((),)), ("team", (), (), ((0, 1),)), ("team", (), (4,), ((),)),
                    ("team", (), (1,), ((0, 1, 2),)), ("team", ("gold",), (), ((2,),)), ("clerk", (), (), ((),)),
                    ("team", (), (1, 2), ((1,),))):
            self.assertIs(judged(tuple(sorted((*TABLE, row)))), True, row)
        # These lead on to rows that are not there, or to the end.
        for row in (("guest", (), (0,), ((),)), ("team", (), (1,), ((),)), ("team", (), (3,), ((),)), ("team", (), (1,), ((2,),)),
                    ("team", ("gold",), (3,), ((0, 1),))):
            self.assertIs(judged(tuple(sorted((*TABLE, row)))), False, row)

    def test_order(self):
        self.assertIs(judged(TABLE[::-1]), False)
        self.assertIs(judged((TABLE[1], TABLE[0], *TABLE[2:])), False)
        for at, row in enumerate(TABLE):
            self.assertIs(judged((*TABLE[:at], row, *TABLE[at:])), False, at)

    def test_places_left_out_or_put_in(self):
        for at, (kind, marks, places, others) in enumerate(TABLE):
            for found in (places[1:], (*places, 4), (*places, 5), (0, *places), places[::-1] + (0,), (-1, *places)):
                self.assertIs(judged((*TABLE[:at], (kind, marks, found, others), *TABLE[at + 1:])), False, (at, found))
            for found in ((), ((),), ((0, 1, 3),), (others[0], others[0]), ((1, 0),)):
                self.assertIs(judged((*TABLE[:at], (kind, marks, places, found), *TABLE[at + 1:])), False, (at, found))

    def test_another_kind_or_other_walks(self):
        self.assertIs(judged(TABLE, kind="guest"), False)
        self.assertIs(judged(TABLE, end="auditor"), True)
        self.assertIs(judged(TABLE, walks=()), False)
        self.assertIs(judged(TABLE, walks=(SEES, SEES)), False)
        self.assertIs(judged(TABLE, walk=SEES, walks=(GILT,)), False)
        self.assertIs(judged((("clerk", (), (0,), ((0,),)),), walk=walk_of("keeps")), True)
        self.assertIs(judged((("clerk", (), (0,), ((0,),)),), walk=walk_of("keeps"), walks=(walk_of("wears"),)), False)
        self.assertIs(judged((("clerk", (), (0,), ()),), walk=walk_of("keeps"), walks=()), False)
        self.assertIs(judged((("clerk", (), (0,), ()),), walk=walk_of("wears"), walks=()), True)

    def test_standings(self):
        for row in (("paper", (), (), ((),)), ("auditor", (), (), ((),)), ("team", ("old",), (), ((),)), ("in", (), (), ((),)),
                    ("team", ("gold", "gold"), (), ((),)), ("clerk", ("gold",), (), ((),)), ("nobody", (), (), ((),)),
                    ("team", "gold", (), ((),)), ("", (), (), ((),))):
            self.assertIs(judged(tuple(sorted((*TABLE, row), key=repr))), False, row)

    def test_truths_are_no_places(self):
        self.assertIs(judged((("clerk", (), (False,), ((0,),)), *TABLE[1:])), False)
        self.assertIs(judged((*TABLE[:1], ("team", (), (True,), ((1,),)), *TABLE[2:])), False)
        self.assertIs(judged((*TABLE[:1], ("team", (), (1,), ((True,),)), *TABLE[2:])), False)

    def test_whatever_stands_there(self):
        chance = random.Random(63)
        table = within(BOOK, "clerk", walk_of("in[gold] keeps"), (SEES, GILT), "paper")[1]
        for other in some_variants(chance, table, 3000):
            walk, walks = walk_of("in[gold] keeps"), (SEES, GILT)
            self.assertIs(judged(other, walk, walks), takes_within(BOOK, "clerk", walk, walks, "paper", other), other)

    def test_tables_with_rows_by_chance(self):
        chance = random.Random(64)
        walks = (walk_of("in keeps"), walk_of("in? keeps"))
        seen = {False: 0, True: 0}
        right = within(SMALL_BOOK, "clerk", walks[0], walks[1:], "paper")[1]
        for turn in range(400):
            rows = set(right)
            for _ in range(chance.randint(0, 3)):
                standing = chance.choice((("clerk", ()), ("team", ()), ("team", ("gold",)), ("box", ())))
                rows.add((*standing, *[tuple(sorted(chance.sample(range(3), chance.randint(0, 2))))], ((0, 1),)))
            if chance.random() < 0.2:
                rows.discard(chance.choice(sorted(rows)))
            table = tuple(sorted(rows))
            found = judge_within(SMALL_BOOK, "clerk", walks[0], walks[1:], "paper", table)
            self.assertIs(found, takes_within(SMALL_BOOK, "clerk", walks[0], walks[1:], "paper", table))
            seen[found] += 1
        self.assertTrue(min(seen.values()) > 20, seen)


if __name__ == "__main__":
    unittest.main()
