"""Claims about further links, held and broken [49]."""

import itertools
import random
import unittest

from leaveledger.answers import answer
from leaveledger.books import Book
from leaveledger.errors import BadClaim, LimitError, TooMany
from leaveledger.growing import link_claim
from leaveledger.growjudge import judge_link_claim
from leaveledger.reading import read
from leaveledger.sights import bare, judge_completion
from leaveledger.worlds import world_of
from leaveledger.writing import write_walk
from tests import chance as by_chance
from tests.plain import Plain, all_words
from tests.plainpapers import breaks_link_claim, link_choices, takes_link_claim
from tests.plainworlds import least_worths
from tests.samples import EXAMPLE, RINGS
from tests.test_claims import COPY, FRAME, book_by_chance, book_of
from tests.test_realizing import BOOK, NODES, ring_walk

LITTLE = Book(read(EXAMPLE))
WORDS = {end: all_words(BOOK, "clerk", end, 4) for end in ("paper", "boss")}


def can_be_broken(book, frame, claim):
    """Whether truths of a frame's atoms that break a claim can be, as far as words of four letters go."""
    atoms = list(book.atoms(frame))
    plain, (sight, ask) = Plain(book.tree), bare(book, frame)
    goals = {at: "boss" if atom[2] == "boss" else "paper" for at, atom in enumerate(atoms) if atom[0] == "walk"}
    for row in itertools.product(*link_choices(atoms)):
        if breaks_link_claim(book, frame, claim, atoms, row) and least_worths(book, sight, ask, [(atom, pair[0]) for atom, pair in zip(atoms, row)]) is not None:
            if all(any(shows(plain, claim, atoms, goals, row, at, word) for word in WORDS[goal]) for at, goal in goals.items() if row[at][1]):
                return True
    return False


def shows(plain, claim, atoms, goals, row, at, word):
    """Whether a row with a word can make an atom about a walk have its two truths, and no other atom other ones."""
    rivals = [other for other in goals if goals[other] == goals[at] and not row[other][0 if row[at][0] else 1]]
    has_tie = row[at][0] or any(letter[0] in claim[1] for letter in word)
    return has_tie and plain.has_word(atoms[at][1], word) and not any(plain.has_word(atoms[other][1], word) for other in rivals)


def check_link_claim(case, book, frame, claim):
    """What is returned, with all that must be so of it."""
    found = link_claim(book, frame, claim)
    if found[0] == "holds":
        case.assertEqual(len(found), 2)
        case.assertIs(judge_link_claim(book, frame, claim, found[1]), True)
        case.assertIs(takes_link_claim(book, frame, claim, found[1]), True)
        return found
    word, world, second, ask = found
    case.assertEqual(word, "broken")
    for one in (world, second):
        case.assertIs(judge_completion(book, *bare(book, frame), (one, ask)), True)
    case.assertEqual((world[0], world[2]), (second[0], second[2]))
    case.assertTrue(set(world[1]) <= set(second[1]))
    case.assertTrue({link[1] for link in set(second[1]) - set(world[1])} <= set(claim[1]))
    before, after = [answer(book, one, ask)[0] == "let" for one in (world, second)]
    case.assertEqual((before, after), (True, False) if claim[0] == "keeps" else (False, True))
    return found


class GrowingTest(unittest.TestCase):
    def holds(self, claim, truth, book=LITTLE, frame=FRAME):
        found = check_link_claim(self, book, frame, claim)
        self.assertEqual(found[0], "holds" if truth else "broken", claim)
        return found

    def test_example(self):
        self.holds(("keeps", ("in", "keeps")), True)
        for ties, safe in ((("in",), False), (("keeps",), False), (("wears",), True), (("in", "wears"), False), (("in", "keeps", "wears"), False)):
            self.holds(("keeps", ties), True)
            self.holds(("safe", ties), safe)

    def test_bars_that_come_by_links(self):
        book = book_of("""walk one = in keeps ; walk all = in* keeps ; walk direct = keeps ;
            let p rank 1 clerk may view on paper when by all to thing ; bar q rank 2 clerk may view on paper when by one to thing ;""")
        for ties in (("in",), ("keeps",), ("in", "keeps")):
            self.holds(("keeps", ties), False, book)
            self.holds(("safe", ties), False, book)
        book = book_of("walk one = in keeps ; bar p rank 1 clerk may view on paper when by one to thing ; let q rank 1 clerk may view on paper when always ;")
        for ties in (("in",), ("keeps",)):
            self.holds(("keeps", ties), False, book)
            self.holds(("safe", ties), True, book)

    def test_further_links_by_the_ties_alone(self):
        book = book_of("walk direct = keeps ; walk one = in keeps ; let p rank 1 clerk may view on paper when by direct to thing ; bar q rank 1 clerk may view on paper when by one to boss ;")
        self.holds(("safe", ("in",)), True, book)
        self.holds(("safe", ("keeps",)), False, book)
        self.holds(("keeps", ("in",)), False, book)
        self.holds(("keeps", ("keeps",)), False, book)
        word, world, second, ask = self.holds(("keeps", ("in",)), False, book)
        self.assertEqual({link[1] for link in set(second[1]) - set(world[1])}, {"in"})

    def test_walks_within_walks(self):
        """What turns one walk turns the other one, too."""
        book = book_of("walk one = in keeps ; walk all = in* keeps ; let p rank 1 clerk may view on paper when by all to thing ; bar q rank 1 clerk may view on paper when not by one to thing and by all to thing ;")
        self.holds(("keeps", ("in", "keeps")), True, book)
        self.holds(("safe", ("in", "keeps")), False, book)
        book = book_of("walk one = in keeps ; walk all = in* keeps ; bar p rank 1 clerk may view on paper when by all to thing ; let q rank 2 clerk may view on paper when by one to thing ;")
        self.holds(("keeps", ("in", "keeps")), True, book)
        book = book_of("walk one = in keeps ; walk all = in* keeps ; let p rank 1 clerk may view on paper when by one to thing and not by all to thing ;")
        self.holds(("keeps", ("in", "keeps")), True, book)
        self.holds(("safe", ("in", "keeps")), True, book)

    def test_tags_and_numbers_stay(self):
        book = book_of("walk one = in keeps ; let p rank 1 clerk may view on paper when asker is old or asker.level <= now - 2 or ask is late ;")
        for word in ("keeps", "safe"):
            self.assertEqual(link_claim(book, FRAME, (word, ("in", "keeps"))), ("holds", ()))
        book = book_of("walk one = in keeps ; let p rank 1 clerk may view on paper when by one to thing and asker.level <= now - 2 and not asker.level <= now ;")
        self.holds(("safe", ("in",)), True, book)
        book = book_of("walk one = in keeps ; let p rank 1 clerk may view on paper when by one to thing and asker.level <= now - 2 and not asker.level <= now - 3 ;")
        word, world, second, ask = self.holds(("safe", ("in",)), False, book)
        self.assertEqual((world[2], ask[5]), ((("zz0", "level", 0), ("zz1", "level", 0), ), 2))

    def test_frames_without_policies(self):
        for frame in (("guest", "view", "paper"), ("clerk", "edit", "paper")):
            for word in ("keeps", "safe"):
                self.assertEqual(link_claim(LITTLE, frame, (word, ("in",))), ("holds", ()))
                self.assertIs(judge_link_claim(LITTLE, frame, (word, ("in",)), ()), True)

    def test_ties_that_are_not_declared(self):
        for ties in (("none",), ("in", "none"), ("gold",), ("sees",), ("clerk", "in"), ("inside",), ("p1",), ("any",), ("auditor",)):
            for word in ("keeps", "safe"):
                for frame in (FRAME, ("guest", "edit", "paper")):
                    with self.assertRaises(BadClaim):
                        link_claim(LITTLE, frame, (word, ties))

    def test_too_many_nodes(self):
        for many, is_large in ((398, False), (399, True)):
            walks = ring_walk(37, (many % 37,)), ring_walk(38, [at for at in range(38) if at != many % 38])
            lines = [f"walk w{at} = {write_walk(part)} ;" for at, part in enumerate(walks)]
            book = Book(read(RINGS + "".join(lines) + "let p rank 1 clerk may view on paper when by w0 to thing and not by w1 to thing ;"))
            if is_large:
                with self.assertRaises(TooMany) as caught:
                    link_claim(book, FRAME, ("safe", ("keeps",)))
                self.assertEqual(caught.exception.part, "node")
                self.assertIsInstance(caught.exception, LimitError)
            else:
                word, world, second, _ = self.holds(("safe", ("keeps",)), False, book)
                self.assertEqual((len(world[0]), len(second[1]) - len(world[1])), (many + 2, 1))

    def test_many_atoms(self):
        walks = "".join(f"walk w{at} = in{{{at % 4 + 1}}} {'in' if at > 3 else ''} keeps ;" for at in range(8))
        text = " or ".join(f"by w{at} to thing" for at in range(4)) + " or " + " and ".join(f"by w{at} to boss" for at in range(4, 8))
        book = book_of(walks + f"let p rank 1 clerk may view on paper when {text} ;")
        self.holds(("keeps", ("in", "keeps")), True, book)
        self.holds(("safe", ("in",)), False, book)
        book = book_of(walks + f"let p rank 1 clerk may view on paper when not ({text}) ;")
        self.holds(("safe", ("in", "keeps")), True, book)
        self.holds(("keeps", ("keeps",)), False, book)

    def test_against_worlds(self):
        chance = random.Random(291)
        seen = {}
        for turn in range(90):
            book = book_by_chance(chance)
            ties = chance.choice((("in",), ("keeps",), ("in", "keeps")))
            held = {word: link_claim(book, FRAME, (word, ties))[0] == "holds" for word in ("keeps", "safe")}
            for _ in range(15):
                world = by_chance.world(chance, book, NODES, chance.choice((8, 20)))
                more = [link for link in by_chance.world(chance, book, NODES, 10)[1] if link[1] in ties and link not in world[1]]
                second = world_of(book, world[0], [*world[1], *more], world[2])
                ask = ("ana", "view", chance.choice(("memo", "zz1")), (chance.random() < 0.5, chance.random() < 0.5), (3,), chance.randint(0, 9))
                before, after = [answer(book, one, ask)[0] == "let" for one in (world, second)]
                self.assertFalse(held["keeps"] and before and not after)
                self.assertFalse(held["safe"] and after and not before)
                seen[before, after] = seen.get((before, after), 0) + 1
        self.assertTrue(len(seen) == 4 and min(seen.values()) > 2, seen)

    def test_by_chance(self):
        chance = random.Random(292)
        seen = {}
        for turn in range(200):
            book = book_by_chance(chance)
            claim = (chance.choice(("keeps", "safe")), chance.choice((("in",), ("keeps",), ("in", "keeps"))))
            frame = chance.choice((FRAME, COPY))
            word = check_link_claim(self, book, frame, claim)[0]
            if can_be_broken(book, frame, claim):
                self.assertEqual(word, "broken")
            elif word == "broken":
                self.assertTrue(len(link_claim(book, frame, claim)[2][0]) > 4)
            seen[claim[0], word] = seen.get((claim[0], word), 0) + 1
        self.assertTrue(len(seen) == 4 and min(seen.values()) > 5, seen)


if __name__ == "__main__":
    unittest.main()
