"""Literals that stand together in a completion, and such that do not [38], [40]."""

import random
import unittest

from leaveledger.answers import stands
from leaveledger.books import Book
from leaveledger.errors import BadAsk, LimitError, TooMany
from leaveledger.nevers import judge_never
from leaveledger.reading import read
from leaveledger.realizing import realize
from leaveledger.shortest import shortest
from leaveledger.sights import bare, is_sight, judge_completion, sight_of
from leaveledger.worlds import is_world
from tests import chance as by_chance, plainworlds
from tests.plain import Plain
from tests.plainpapers import takes_never
from tests.samples import REALM, RINGS

TREE = read(REALM)
BOOK = Book(TREE)
PLAIN = Plain(TREE)
FRAME = ("clerk", "view", "paper")
NODES = (("ana", "clerk", ("old",)), ("blue", "team", ()), ("grey", "team", ()), ("memo", "paper", ()), ("pile", "box", ()),
         ("red", "team", ("gold",)), ("zz1", "paper", ("fine",)))
TERMS = ("now", "0", "asker.level", "thing.level", "ask.amount")
EMPTY = ((), (), (), (), ())


def walk_of(text):
    return read(f"walk w = {text} ;")[0][2]


def by(text, end="thing"):
    """An atom about a walk."""
    return ("walk", walk_of(text), end)


def sight_with(nodes=(), links=(), closed=(), tags=(), numbers=()):
    """A sight with an asker ana, a thing memo, and what is told besides."""
    nodes = (("ana", "clerk", ()), ("memo", "paper", ()), *nodes)
    return tuple(tuple(sorted(part)) for part in (nodes, links, closed, tags, numbers))


def path_steps(book, world, ask, atom):
    """The steps of the shortest path of an atom's walk."""
    path = shortest(book, world, atom[1], ask[0], ask[2] if atom[2] == "thing" else atom[2])
    return None if path is None else len(path)


def atom_by_chance(chance, book):
    turn = chance.random()
    if turn < 0.65:
        return ("walk", by_chance.small_walk(chance, book), chance.choice(("thing", "thing", "boss")))
    if turn < 0.85:
        return ("atmost", chance.choice(TERMS), chance.choice(TERMS), chance.choice((0, 1, -1, 4, -4, -9)))
    return chance.choice((("flag", "inside"), ("flag", "late"), ("tag", "asker", "old"), ("tag", "asker", "fine"), ("tag", "thing", "fine")))


def literals_by_chance(chance, book, most):
    found = []
    for _ in range(chance.randint(0, most)):
        atom = atom_by_chance(chance, book)
        if book.written_cond(atom) not in [book.written_cond(other) for other, _ in found]:
            found.append((atom, chance.random() < 0.5))
    return tuple(found)


def case_by_chance(chance, links):
    """A sight, a partial ask for it, and literals."""
    told = sight_of(BOOK, by_chance.world(chance, BOOK, NODES, links))
    much = (chance.choice((0.3, 1)), chance.choice((0, 0.5, 1)), 0.5, 0.5)
    sight = plainworlds.sight_by_chance(chance, told, much)
    flags = tuple(chance.choice((None, True, False)) for _ in range(2))
    ask = ("ana", "view", chance.choice(("memo", "zz1")), flags, (chance.choice((None, 3)),), chance.choice((None, 5)))
    return sight, ask, literals_by_chance(chance, BOOK, 6)


class RealizeTest(unittest.TestCase):
    def found(self, sight, ask, literals, book=BOOK):
        """What is returned, with all that must be so of it."""
        self.assertIs(is_sight(book, sight), True)
        found = realize(book, sight, ask, literals)
        self.assertEqual(len(found), 2)
        if found[0] == "never":
            self.assertIs(judge_never(book, sight, ask, literals, found[1]), True)
            self.assertIs(takes_never(book, sight, ask, literals, found[1]), True)
            return found
        self.assertEqual(found[0], "world")
        self.assertIs(judge_completion(book, sight, ask, found[1]), True)
        world, full = found[1]
        self.assertTrue(len(world[0]) <= 400)
        for atom, truth in literals:
            self.assertIs(stands(book, world, full, atom), truth, atom)
        return found

    def check(self, literals, word, sight=None, ask=None):
        """The completion, or the paper."""
        told, partial = bare(BOOK, FRAME)
        word_found, found = self.found(sight or told, ask or partial, literals)
        self.assertEqual(word_found, word if word == "world" else "never", literals)
        if word != "world":
            self.assertEqual(found[0], word)
        return found

    def test_no_literals(self):
        world, full = self.check((), "world")
        self.assertEqual(world, ((("zz0", "clerk", ()), ("zz1", "paper", ())), (), (("zz0", "level", 0), ("zz1", "level", 0))))
        self.assertEqual(full, ("zz0", "view", "zz1", (False, False), (0,), 0))

    def test_each_sort_of_literal(self):
        for atom in (("flag", "late"), ("tag", "asker", "old"), ("tag", "asker", "fine"), ("tag", "thing", "fine"), by("in keeps"),
                     by("@gilt"), by("@chart"), by("(@deep)", "boss"), ("atmost", "asker.level", "now", -3), ("walk", "gilt", "thing"), ("walk", "deep", "boss")):
            for truth in (True, False):
                self.check(((atom, truth),), "world")
                self.check([(atom, truth)], "world")
        self.check(((("atmost", "0", "asker.level", 0), False),), "ring")
        self.check(((("atmost", "0", "0", 0), False),), "ring")
        self.check(((("atmost", "0", "0", -1), True),), "ring")
        self.check(((("atmost", "now", "now", 0), False),), "ring")

    def test_tags_and_flags_that_are_told(self):
        sight = sight_with(tags=(("ana", "old", True), ("memo", "fine", False)))
        ask = ("ana", "view", "memo", (True, None), (None,), None)
        told = {("tag", "asker", "old"): True, ("tag", "thing", "fine"): False, ("flag", "inside"): True}
        for atom, truth in told.items():
            self.check(((atom, truth),), "world", sight, ask)
            self.assertEqual(self.check(((("flag", "late"), True), (atom, not truth)), "tag", sight, ask), ("tag", 1))
        for atom in (("tag", "asker", "fine"), ("flag", "late")):
            for truth in (True, False):
                self.check(((atom, truth),), "world", sight, ask)
        world, full = self.check(((("tag", "asker", "fine"), True),), "world", sight, ask)
        self.assertEqual(world[0], (("ana", "clerk", ("fine", "old")), ("memo", "paper", ())))
        self.assertEqual(full[3], (True, False))

    def test_numbers(self):
        level, other, amount = "asker.level", "thing.level", "ask.amount"
        literals = ((("atmost", level, other, -3), True), (("atmost", amount, level, 4), False), (("atmost", "now", amount, -2), False))
        world, full = self.check(literals, "world")
        self.assertEqual(world[2], (("zz0", "level", 0), ("zz1", "level", 3)))
        self.assertEqual(full[4:], ((5,), 4))
        for told, least in ((7, 10), (0, 3), (9994, 9997)):
            world, full = self.check(literals, "world", sight_with(numbers=(("ana", "level", told),)), ("ana", "view", "memo", (None, None), (None,), None))
            self.assertEqual(world[2], (("ana", "level", told), ("memo", "level", least)))
            self.assertEqual(full[4:], ((told + 5,), told + 4))

    def test_numbers_that_cannot_be(self):
        level, other = "asker.level", "thing.level"
        less = (("atmost", level, other, -3), True)
        ask = ("ana", "view", "memo", (None, None), (None,), None)
        self.check((less, (("atmost", other, level, 2), True)), "ring")
        self.check((less, (("atmost", other, level, 3), True)), "world")
        self.check((less, (("atmost", other, "now", 0), True)), "ring", sight_with(numbers=(("ana", "level", 4),)), (*ask[:5], 6))
        self.check((less, (("atmost", other, "now", 0), True)), "world", sight_with(numbers=(("ana", "level", 4),)), (*ask[:5], 7))
        self.check((less,), "ring", sight_with(numbers=(("ana", "level", 9997),)), ask)
        self.check((less,), "ring", sight_with(numbers=(("memo", "level", 2),)), ask)
        self.check((less,), "world", sight_with(numbers=(("memo", "level", 3),)), ask)
        self.check(((("atmost", "ask.amount", "0", 4), True),), "ring", sight_with(), (*ask[:4], (5,), None))

    def test_numbers_of_other_nodes_do_not_matter(self):
        nodes = (("bob", "clerk", ()), ("leaf", "paper", ()))
        sight = sight_with(nodes, tags=(("bob", "old", True),), numbers=(("bob", "level", 1), ("leaf", "level", 7)))
        ask = ("ana", "view", "memo", (None, None), (None,), None)
        literals = ((("atmost", "thing.level", "asker.level", -2), True), (("tag", "asker", "old"), False))
        world, _ = self.check(literals, "world", sight, ask)
        self.assertEqual(world[2], (("ana", "level", 2), ("bob", "level", 1), ("leaf", "level", 7), ("memo", "level", 0)))
        self.assertEqual(world[0], (("ana", "clerk", ()), ("bob", "clerk", ("old",)), ("leaf", "paper", ()), ("memo", "paper", ())))

    def test_walks_in_a_bare_sight(self):
        for text, steps in (("keeps", 1), ("in keeps", 2), ("@deep", 1), ("in[gold] in[gold] keeps", None), ("in{3} in[gold] keeps", 2), ("in in in keeps", 4), ("@chart", 3),
                            ("in+ keeps", 2), ("table 0 in team [] 0 | 0 in box [] 1 | 1 keeps paper [] 2 final 2", 2)):
            literals = ((by(text), True),)
            if steps is None:
                self.check(literals, "none")
            else:
                world, full = self.check(literals, "world")
                self.assertEqual(path_steps(BOOK, world, full, literals[0][0]), steps, text)
                self.assertEqual(len(world[0]), steps + 1)

    def test_walks_that_no_path_can_have(self):
        for text, end in (("in[gold] in[gold] keeps", "thing"), ("in", "thing"), ("keeps in", "thing"), ("table final -", "boss"), ("keeps keeps", "boss"),
                          ("table 0 keeps boss [] 1 final 1", "thing"), ("table 0 keeps paper [] 1 final 1", "boss")):
            self.check(((by(text, end), True),), "none")
            self.check(((by(text, end), False),), "world")

    def test_rivals(self):
        self.check(((by("keeps"), True), (by("@all"), False)), "none")
        self.check(((by("@all"), True), (by("@near"), False)), "world")
        self.check(((by("@all"), True), (by("@near", "boss"), False)), "world")
        self.check(((by("in keeps"), True), (by("in[-gold] keeps"), False)), "world")
        self.check(((by("in[-gold] keeps"), True), (by("in keeps"), False)), "none")
        self.check(((by("in[-gold] keeps"), True), (by("in keeps"), False), (by("keeps", "boss"), True)), "none")
        self.check(((by("in keeps"), True), (by("in[-gold] keeps"), False), (by("in[gold] keeps"), False)), "none")
        self.check(((by("@all"), True), (by("keeps"), False), (by("in keeps"), False), (by("in in keeps"), False)), "world")
        # Which walk it is matters, not how it is named.
        self.check(((by("@near"), True), (by("in? keeps"), False)), "none")
        self.check(((by("in{2} keeps"), True), (by("@deep"), False)), "none")

    def test_true_ones_are_fulfilled_apart_from_each_other(self):
        literals = ((by("@all"), True), (by("keeps"), False), (by("in keeps", "boss"), True), (by("in in keeps"), True), (by("in in in+ keeps"), False))
        world, full = self.check(literals, "world")
        self.assertEqual(path_steps(BOOK, world, full, by("@all")), 2)
        self.assertEqual(path_steps(BOOK, world, full, by("in keeps", "boss")), 2)
        self.assertEqual(path_steps(BOOK, world, full, by("in in keeps")), 3)

    def test_told_paths(self):
        nodes = (("blue", "team", ()), ("pile", "box", ()))
        links = (("ana", "in", "blue"), ("blue", "in", "pile"), ("pile", "keeps", "memo"))
        ask = ("ana", "view", "memo", (None, None), (None,), None)
        sight = sight_with(nodes, links)
        self.assertEqual(self.check(((by("keeps"), True), (by("in in keeps"), False)), "path", sight, ask), ("path", 1, (("in", "blue"), ("in", "pile"), ("keeps", "memo"))))
        world, _ = self.check(((by("in in keeps"), True),), "world", sight, ask)
        self.assertEqual(world[:2], (sight[0], sight[1]))
        self.check(((by("in keeps"), False), (by("@chart"), True)), "world", sight, ask)
        self.check(((by("keeps", "boss"), False), (by("in in keeps", "boss"), True)), "world", sight, ask)

    def test_a_told_path_with_a_ring(self):
        nodes = (("blue", "team", ()), ("grey", "team", ()), ("pile", "box", ()))
        links = (("ana", "in", "blue"), ("blue", "in", "grey"), ("grey", "in", "blue"), ("blue", "in", "pile"), ("pile", "keeps", "memo"))
        ask = ("ana", "view", "memo", (None, None), (None,), None)
        sight = sight_with(nodes, links)
        self.check(((by("(in in)+ in keeps"), False),), "world", sight, ask)
        self.check(((by("(in in)+ keeps"), False),), "path", sight, ask)
        self.check(((by("in in in in in in keeps"), False),), "path", sight, ask)
        # Whatever comes behind pile can be read behind each number of rounds.
        self.check(((by("in in keeps", "boss"), True), (by("in in in+ keeps", "boss"), False)), "world", sight, ask)
        closed = (("ana", "in"), ("ana", "keeps"), ("blue", "in"), ("grey", "in"))
        self.check(((by("in in keeps", "boss"), True), (by("in in in+ keeps", "boss"), False)), "none", sight_with(nodes, links, closed), ask)
        self.check(((by("in in keeps", "boss"), True),), "world", sight_with(nodes, links, closed), ask)

    def test_rows_told_whole(self):
        ask = ("ana", "view", "memo", (None, None), (None,), None)
        whole = (("ana", "in"), ("ana", "keeps"))
        self.check(((by("@all"), True),), "none", sight_with(closed=whole), ask)
        for part, steps in ((whole[:1], 1), (whole[1:], 2)):
            world, full = self.check(((by("@all"), True),), "world", sight_with(closed=part), ask)
            self.assertEqual(path_steps(BOOK, world, full, by("@all")), steps)
        nodes, links = (("pile", "box", ()), ("blue", "team", ())), (("ana", "in", "pile"), ("ana", "in", "blue"))
        whole = (*whole, ("pile", "keeps"), ("blue", "keeps"))
        world, full = self.check(((by("@all"), True),), "world", sight_with(nodes, links, whole), ask)
        self.assertEqual(path_steps(BOOK, world, full, by("@all")), 3)
        self.check(((by("@all"), True),), "none", sight_with(nodes, links, (*whole, ("blue", "in"))), ask)
        whole = whole[:3]
        self.check(((by("@all"), True),), "none", sight_with(nodes[:1], links[:1], whole), ask)
        # The row of a node to which no told path leads does not matter.
        self.check(((by("@all"), True),), "world", sight_with(nodes, (), (("blue", "in"), ("pile", "keeps"))), ask)

    def test_the_way_with_the_fewest_steps_in_all(self):
        nodes = (("blue", "team", ()), ("grey", "team", ()), ("zz0", "team", ()))
        links = (("ana", "in", "blue"), ("blue", "in", "grey"), ("grey", "in", "zz0"))
        ask = ("ana", "view", "memo", (None, None), (None,), None)
        sight = sight_with(nodes, links, (("ana", "keeps"), ("zz0", "keeps")))
        for text, steps, groups in (("in+ in[-gold] in keeps", 4, 1), ("in in in in keeps", 5, 1), ("in[gold] in in in keeps | in in in in in keeps", 5, 4),
                                    ("in[gold] in in in keeps | in in in in keeps", 5, 1), ("in[gold] keeps | in in in in keeps", 2, 1)):
            world, full = self.check(((by(text), True),), "world", sight, ask)
            self.assertEqual(path_steps(BOOK, world, full, by(text)), steps, text)
            self.assertEqual(len(world[0]), 5 + groups, text)
            self.assertNotIn("zz0", [name for name, _, _ in world[0] if name not in [node[0] for node in sight[0]]])

    def test_rivals_where_a_told_path_has_led(self):
        """What is read behind a told path is read from the places where each walk is there."""
        ask = ("ana", "view", "memo", (None, None), (None,), None)
        sight = sight_with((("blue", "team", ()),), (("ana", "in", "blue"),), (("ana", "in"), ("ana", "keeps"), ("blue", "in")))
        self.check(((by("(keeps | in) keeps"), True), (by("in keeps"), False)), "none", sight, ask)
        self.check(((by("(keeps | in) keeps"), True), (by("keeps keeps | keeps"), False)), "world", sight, ask)
        self.check(((by("(keeps | in) keeps"), True), (by("keeps"), False), (by("keeps keeps | in keeps"), False)), "none", sight, ask)
        self.check(((by("(keeps | in) keeps"), True), (by("keeps in keeps"), False), (by("keeps | in"), False)), "world", sight, ask)

    def test_tags_and_numbers_in_the_order_of_worlds(self):
        book = Book(read("asker clerk ; thing paper ; tag z on clerk paper ; tag b on clerk ; number y on paper clerk ; number c on clerk ; action view ;"
                         "flag p ; flag a ; asked s ; asked d ;"))
        sight, ask = bare(book, FRAME)
        literals = ((("tag", "asker", "z"), True), (("tag", "asker", "b"), True), (("flag", "a"), True), (("atmost", "now", "ask.d", -2), True), (("atmost", "0", "asker.c", -1), True))
        word, (world, full) = self.found(sight, ask, literals, book)
        self.assertEqual(world, ((("zz0", "clerk", ("b", "z")), ("zz1", "paper", ())), (), (("zz0", "c", 1), ("zz0", "y", 0), ("zz1", "y", 0))))
        self.assertEqual(full, ("zz0", "view", "zz1", (False, True), (0, 2), 0))

    def test_further_names_are_free(self):
        nodes = tuple((f"zz{at}", "team", ()) for at in (0, 1, 3))
        ask = ("ana", "view", "memo", (None, None), (None,), None)
        world, _ = self.check(((by("in in in in keeps"), True),), "world", sight_with(nodes), ask)
        self.assertEqual(len(world[0]), 9)

    def test_ask_that_does_not_fit(self):
        sight, ask = bare(BOOK, FRAME)
        for at, part in ((0, "zz1"), (0, "zz5"), (0, None), (1, "edit"), (1, None), (2, "zz0"), (2, "boss"), (3, (True,)), (3, (None, 1)), (3, None),
                         (3, [None, None]), (4, ()), (4, (10000,)), (4, (True,)), (4, [None]), (4, None), (5, -1), (5, False), (5, "0"), (5, 10000)):
            for literals in ((), ((("flag", "late"), True),) * 11):
                with self.assertRaises(BadAsk) as caught:
                    realize(BOOK, sight, (*ask[:at], part, *ask[at + 1:]), literals)
                self.assertEqual(caught.exception.part, at)
        for other, at in (((*ask[:3], (1, True), (-1,), -1), 3), (list(ask), 0), (None, 0), ((), 0), (ask[:5], 5), ((*ask, 0), 6), ((*ask, None), 6)):
            with self.assertRaises(BadAsk) as caught:
                realize(BOOK, sight, other, ())
            self.assertEqual(caught.exception.part, at)

    def test_too_many_atoms(self):
        sight, ask = bare(BOOK, FRAME)
        literals = [(("atmost", "now", "0", gap), True) for gap in range(11)]
        self.assertEqual(realize(BOOK, sight, ask, tuple(literals[:10]))[0], "world")
        for rows in (literals, tuple(literals), (*literals, *literals)):
            with self.assertRaises(TooMany) as caught:
                realize(BOOK, sight, ask, rows)
            self.assertEqual(caught.exception.part, "atom")
            self.assertIsInstance(caught.exception, LimitError)

    def test_by_chance(self):
        chance = random.Random(201)
        seen = {}
        for turn in range(700):
            word, found = self.found(*case_by_chance(chance, chance.choice((10, 40, 100))))
            word = found[0] if word == "never" else word
            seen[word] = seen.get(word, 0) + 1
        self.assertTrue(min(seen.values()) > 15 and len(seen) == 5, seen)

    def test_against_words(self):
        chance = random.Random(202)
        order = [row[0] for row in NODES]
        seen = {"none": 0, "world": 0}
        for turn in range(200):
            sight, ask, _ = case_by_chance(chance, 60)
            atoms = [("walk", by_chance.small_walk(chance, BOOK), chance.choice(("thing", "thing", "boss"))) for _ in range(3)]
            literals = tuple((atom, at == 0 or chance.random() < 0.5) for at, atom in enumerate(atoms[:chance.randint(1, 3)]))
            # Told links without rings, so that there are no longer paths than are looked at.
            links = [link for link in sight[1] if link[2] not in order or link[0] == "ana" or order.index(link[0]) < order.index(link[2])]
            sight = (sight[0], tuple(links[:8]), *sight[2:])
            steps = [plainworlds.fewest_steps(BOOK, PLAIN, sight, ask, literals, at, 5) if truth else 0 for at, (_, truth) in enumerate(literals)]
            told = [plainworlds.fewest_steps(BOOK, PLAIN, sight, ask, literals, at, 5) == 0 for at in range(len(literals))]
            if any(is_told and not truth for is_told, (_, truth) in zip(told, literals)):
                self.assertEqual(self.found(sight, ask, literals)[1][0], "path")
                continue
            word, found = self.found(sight, ask, literals)
            if word == "world":
                lengths = [path_steps(BOOK, *found, atom) for atom, _ in literals]
                for (atom, truth), least, length in zip(literals, steps, lengths):
                    self.assertTrue(least == 0 or least == length or least is None and length > 5, (sight, literals, steps, lengths))
                seen["world"] += any(steps)
            else:
                self.assertIn(None, steps)
                seen["none"] += 1
        self.assertTrue(min(seen.values()) > 20, seen)

    def test_against_worlds(self):
        """No completion shows that what is never can be, has a shorter path or a lesser worth than the one returned."""
        chance = random.Random(203)
        seen = {"never": 0, "world": 0}
        for turn in range(120):
            sight, ask, literals = case_by_chance(chance, 30)
            literals = literals[:3]
            word, found = self.found(sight, ask, literals)
            for _ in range(25):
                world, full = plainworlds.completed_by_chance(chance, BOOK, sight, ask, chance.randint(0, 3), chance.randint(0, 40))
                self.assertIs(judge_completion(BOOK, sight, ask, (world, full)), True)
                if all(PLAIN.stands(world, full, BOOK.written_cond(atom)) is truth for atom, truth in literals):
                    self.assertEqual(word, "world", (sight, ask, literals))
                    self.check_least(sight, ask, literals, found, (world, full))
                    seen["world"] += 1
                else:
                    seen["never"] += word == "never"
        self.assertTrue(min(seen.values()) > 200, seen)

    def check_least(self, sight, ask, literals, found, other):
        for at, (atom, truth) in enumerate(literals):
            if atom[0] == "walk" and truth and plainworlds.fewest_steps(BOOK, PLAIN, sight, ask, literals, at, 4) != 0:
                self.assertTrue(path_steps(BOOK, *found, atom) <= path_steps(BOOK, *other, atom))
        for (world, full), (more, more_full) in ((found, other),):
            for row, more_row in zip([row for row in world[2] if row[0] in full], [row for row in more[2] if row[0] in full]):
                self.assertTrue(row <= more_row)
            self.assertTrue(full[4] <= more_full[4] and full[5] <= more_full[5])

    def test_least_worths_by_chance(self):
        chance = random.Random(204)
        seen = {"never": 0, "world": 0}
        for turn in range(200):
            sight, ask, _ = case_by_chance(chance, 10)
            atoms = {("atmost", chance.choice(TERMS), chance.choice(TERMS), chance.choice((0, 1, -1, 5, -5, -2000))): True for _ in range(4)}
            literals = tuple((atom, chance.random() < 0.6) for atom in atoms)
            worths = plainworlds.least_worths(BOOK, sight, ask, literals)
            word, found = self.found(sight, ask, literals)
            seen[word] += 1
            self.assertEqual(word == "never", worths is None)
            if word == "world":
                (_, _, numbers), full = found
                levels = {name: worth for name, _, worth in numbers}
                shown = {"asker.level": levels[ask[0]], "thing.level": levels[ask[2]], "ask.amount": full[4][0], "now": full[5]}
                self.assertEqual(shown, {term: worths.get(term, 0) for term in shown})
        self.assertTrue(min(seen.values()) > 30, seen)


class LongPathsTest(unittest.TestCase):
    """Walks whose words have a number of steps that is told by what is left when it is divided."""

    def check(self, size, left, other_size, other_left, links):
        """A path that is one step longer than a number with two rests."""
        book = Book(read(RINGS))
        sight, ask = bare(book, ("clerk", "view", "paper"))
        literals = ((("walk", ring_walk(size, (left,)), "thing"), True),
                    (("walk", ring_walk(other_size, [at for at in range(other_size) if at != other_left]), "thing"), False))
        word, found = realize(book, sight, ask, literals)
        self.assertEqual(word, "world")
        self.assertIs(judge_completion(book, sight, ask, found), True)
        world, full = found
        self.assertEqual((len(world[0]), len(world[1])), (links + 1, links))
        self.assertIs(is_world(book, world), links < 60)
        self.assertEqual([stands(book, world, full, atom) for atom, _ in literals], [True, False])

    def test_long_paths(self):
        self.check(7, 3, 5, 1, 32)
        self.check(37, 58 % 37, 38, 58 % 38, 59)
        self.check(37, 59 % 37, 38, 59 % 38, 60)
        self.check(37, 97 % 37, 38, 97 % 38, 98)
        self.check(37, 250 % 37, 38, 250 % 38, 251)
        self.check(37, 398 % 37, 38, 398 % 38, 399)

    def test_too_many_nodes(self):
        book = Book(read(RINGS))
        sight, ask = bare(book, ("clerk", "view", "paper"))
        for many in (399, 1200):
            literals = ((("walk", ring_walk(37, (many % 37,)), "thing"), True),
                        (("walk", ring_walk(38, [at for at in range(38) if at != many % 38]), "thing"), False))
            with self.assertRaises(TooMany) as caught:
                realize(book, sight, ask, literals)
            self.assertEqual(caught.exception.part, "node")
            self.assertIsInstance(caught.exception, LimitError)
            # Where there is no completion at all, a paper says so.
            word, found = realize(book, sight, ask, (*literals, (("atmost", "now", "now", 0), False)))
            self.assertEqual((word, found[0]), ("never", "ring"))

    def test_told_nodes_count(self):
        book = Book(read(RINGS))
        nodes = tuple(sorted([("ana", "clerk", ()), ("memo", "paper", ()), *[(f"zz{at}", "team", ()) for at in range(390)]]))
        sight, ask = (nodes, (), (), (), ()), ("ana", "view", "memo", (), (), None)
        word, found = realize(book, sight, ask, ((("walk", ring_walk(37, (8,)), "thing"), True),))
        self.assertEqual((word, len(found[0][0])), ("world", 400))
        with self.assertRaises(TooMany):
            realize(book, sight, ask, ((("walk", ring_walk(37, (9,)), "thing"), True),))

    def test_several_long_paths(self):
        book = Book(read(RINGS))
        sight, ask = bare(book, ("clerk", "view", "paper"))
        atoms = [("walk", ring_walk(38, (left,)), "thing") for left in range(20, 30)]
        word, (world, full) = realize(book, sight, ask, tuple((atom, True) for atom in atoms))
        self.assertEqual((word, len(world[0])), ("world", 2 + sum(range(20, 30))))
        self.assertTrue(all(stands(book, world, full, atom) for atom in atoms))


def ring_walk(size, rests):
    """A table with the words that have one step behind a number of others with one of some rests."""
    moves = [(at, ("in", "team", ()), (at + 1) % size) for at in range(size)]
    return ("table", (*moves, *[(rest, ("keeps", "paper", ()), size) for rest in rests]), size)


if __name__ == "__main__":
    unittest.main()
