"""Whether something is a tree [3] to [6]."""

import unittest

from leaveledger.trees import is_tree
from tests.samples import CONDS, LINES, STEP, WALKS, chained, policy, walk_line, when_line

NAMES = tuple("abcdefghi")
FLAG = ("flag", "f")
JUNK = (None, True, False, 0, 1, -99999, 99999, "", "a", "walk", (), [], {}, ((),), ("a",), ["a"], ("walk",), 5.5, b"a")


def is_line(line):
    """Whether a line makes a tree."""
    return is_tree((line,))


def parts_changed(row, to):
    """All tuples in which one part of a nested tuple is replaced."""
    for at, part in enumerate(row):
        yield (*row[:at], to, *row[at + 1:])
        if isinstance(part, tuple):
            for changed in parts_changed(part, to):
                yield (*row[:at], changed, *row[at + 1:])


def deep_tuple(deep):
    """A tuple nested so deep."""
    found = ()
    for _ in range(deep):
        found = (found,)
    return found


class TreesTest(unittest.TestCase):
    def yes(self, *lines):
        for line in lines:
            self.assertIs(is_line(line), True, line)

    def no(self, *lines):
        for line in lines:
            self.assertIs(is_line(line), False, line)

    def test_each_kind_of_line(self):
        self.assertEqual(len(set(line[0] for line, _ in LINES)), 18)
        self.yes(*[line for line, _ in LINES])
        self.assertIs(is_tree(tuple(line for line, _ in LINES)), True)

    def test_number_of_lines(self):
        line = ("asker", ("a",))
        for many in (0, 1, 59, 60):
            self.assertIs(is_tree((line,) * many), True)
        for many in (61, 62, 1000):
            self.assertIs(is_tree((line,) * many), False)

    def test_what_is_no_tree(self):
        for thing in JUNK:
            if thing != ():
                self.assertIs(is_tree(thing), False, thing)
            self.assertIs(is_tree((thing,)), False, thing)
        self.assertIs(is_tree([("asker", ("a",))]), False)
        self.assertIs(is_tree(("asker", ("a",))), False)

    def test_parts_left_out_and_put_in(self):
        for line, _ in LINES:
            for at in range(len(line)):
                self.no(line[:at] + line[at + 1:])
            for thing in ((), "a", None):
                self.no((*line, thing))

    def test_wrong_words(self):
        for line, _ in LINES:
            for word in ("", "x", "Asker", "node", "gates", "step", None, ("asker",), ["asker"], 3):
                self.no((word, *line[1:]))

    def test_true_for_one_and_lists_for_tuples(self):
        for line, _ in LINES:
            self.no(list(line))
            for at, part in enumerate(line):
                if isinstance(part, tuple):
                    self.no((*line[:at], list(part), *line[at + 1:]))
            for thing in (None, 5.5, b"a", -1, {}, [], ["a"], ("zz",), "A", "zza", deep_tuple(3)):
                for changed in parts_changed(line, thing):
                    if line[0] != "walk" or thing is not None:
                        self.no(changed)

    def test_names_of_lines(self):
        for word in ("a", "abcdefgh", "a1", "asker1", "nodes"):
            self.yes(("tag", word, ("k",)), ("walk", word, STEP), ("when", word, FLAG), policy(name=word))
            self.yes(("asker", (word,)), ("gate", word, word, word), ("never", word, (), ()))
        for word in ("", "abcdefghi", "zz0", "1a", "asker", "any", "rule", "@a", 1, None, True):
            self.no(("tag", word, ("k",)), ("walk", word, STEP), ("when", word, FLAG), policy(name=word))
            self.no(("asker", (word,)), ("never", word, (), ()), ("gate", "in", word, "k"), ("gate", "in", "k", word))

    def test_lists_of_names(self):
        for word in ("asker", "group", "thing", "badge", "flag", "asked", "action", "duty"):
            self.yes((word, NAMES[:1]), (word, NAMES[:8]))
            self.no((word, NAMES), (word, ()), (word, ("a", "a")), (word, ("a", "b", "a")), (word, "a"))
        for word in ("tag", "number", "role"):
            self.yes((word, "n", NAMES[:1]), (word, "n", NAMES[:8]))
            self.no((word, "n", NAMES), (word, "n", ()), (word, "n", ("a", "b", "b")))
        for names in ((), NAMES, ("a", "a")):
            self.no(("tie", "n", names, ("a",)), ("tie", "n", ("a",), names))
            self.no(policy(askers=names), policy(things=names), policy(actions=names))
        self.yes(("tie", "n", NAMES[:8], NAMES[:8]), policy(askers=NAMES[:8], things=NAMES[:8], actions=NAMES[:8]))

    def test_ranks(self):
        for rank in (0, 1, 99):
            self.yes(policy(rank=rank))
        for rank in (-1, 100, 9999, True, False, None, "1", (1,)):
            self.no(policy(rank=rank))

    def test_actions(self):
        self.yes(policy(actions=("@a",)), policy(actions=("a", "@a")), policy(actions=("@a", "@b")))
        self.no(policy(actions=("@",)), policy(actions=("@@a",)), policy(actions=("@a", "@a")))
        self.no(policy(actions=("a@",)), policy(actions=("@zz",)), policy(actions=("@on",)), policy(actions=(1,)))
        self.no(("role", "r", ("@a",)), ("action", ("@a",)))

    def test_duties(self):
        for many in range(5):
            self.yes(policy(duties=NAMES[:many]))
        self.no(policy(duties=NAMES[:5]), policy(duties=("a", "a")), policy(duties=None), policy(duties=[]))
        self.yes(policy("bar"))
        self.no(policy("bar", duties=("a",)), policy("bar", duties=[]), policy("bar", duties=None))

    def test_tests(self):
        pairs = tuple((name, at % 2 == 0) for at, name in enumerate(NAMES))
        for many in range(4):
            self.yes(("never", "in", pairs[:many], ()), ("never", "in", (), pairs[:many]))
            self.yes(walk_line(("step", "in", pairs[:many])))
        for tests in (pairs[:4], (("a", True), ("a", True)), (("a", True), ("a", False)), (("a", 1),), (("a", 0),),
                      (("a",),), (("a", True, True),), (("zz", True),), ((1, True),), ("a", True), (("a", None),),
                      (["a", True],), ["a"], None, "ab", ("ab",)):
            self.no(("never", "in", tests, ()), ("never", "in", (), tests), walk_line(("step", "in", tests)))

    def test_gates(self):
        self.yes(*[("gate", what, "a", "b") for what in ("node", "tag", "rule", "in", "nodes")])
        self.no(*[("gate", what, "a", "b") for what in ("any", "now", "tie", "zz0", "", None, ("node",), True)])
        self.yes(("gate", "link", "a", "b"))
        self.no(("gate", "in", "node", "b"), ("gate", "in", "a", "zz0"))

    def test_walks(self):
        self.yes(*[walk_line(walk) for walk, _ in WALKS])
        for walk, _ in WALKS:
            self.no(walk_line((*walk, "x")), walk_line(walk[:-1]), walk_line(("x", *walk[1:])))
        for thing in JUNK:
            for walk in (thing, ("star", thing), ("plus", thing), ("maybe", thing), ("upto", thing, 1),
                         ("then", STEP, thing), ("then", thing, STEP), ("or", STEP, thing), ("or", thing, STEP)):
                self.no(walk_line(walk))
            if thing != "a" and thing != "walk":
                self.no(walk_line(("named", thing)), walk_line(("step", thing, ())))
        self.no(walk_line(("named", "any")), walk_line(("step", "tie", ())), walk_line(("then", STEP)))
        self.yes(walk_line(("step", "any", ())), walk_line(("named", "walks")))

    def test_depth_of_walks(self):
        for word in ("star", "plus", "maybe"):
            self.yes(walk_line(chained(STEP, 11, word=word)), walk_line(chained(STEP, 12, word=word)))
            self.no(walk_line(chained(STEP, 13, word=word)), walk_line(chained(STEP, 14, word=word)))
            self.no(walk_line(chained(STEP, 100000, word=word)))
        self.yes(walk_line(chained(("named", "w"), 12, word="star")))
        self.no(walk_line(chained(("named", "w"), 13, word="star")))
        for word in ("then", "or"):
            deep = chained(STEP, 11, word="star")
            self.yes(walk_line((word, deep, STEP)), walk_line((word, STEP, deep)))
            deep = ("plus", deep)
            self.no(walk_line((word, deep, STEP)), walk_line((word, STEP, deep)))
        self.yes(walk_line(("upto", chained(STEP, 11, word="star"), 4)))
        self.no(walk_line(("upto", chained(STEP, 12, word="star"), 4)))

    def test_upto(self):
        for times in (1, 2, 3, 4):
            self.yes(walk_line(("upto", STEP, times)))
        for times in (0, 5, -1, True, False, None, "1"):
            self.no(walk_line(("upto", STEP, times)))

    def test_tables(self):
        move = (0, ("in", "team", ()), 1)
        for many in (0, 1, 2, 199, 200):
            self.yes(walk_line(("table", (move,) * many, None)))
        for many in (201, 202, 1000):
            self.no(walk_line(("table", (move,) * many, None)))
        for place in (0, 1, 38, 39):
            self.yes(walk_line(("table", ((place, move[1], 0), (0, move[1], place)), place)))
        for place in (-1, 40, True, False, "0", (0,)):
            self.no(walk_line(("table", ((place, move[1], 0),), 0)))
            self.no(walk_line(("table", ((0, move[1], place),), 0)))
            self.no(walk_line(("table", (move,), place)))
        self.no(walk_line(("table", ((None, move[1], 0),), 0)), walk_line(("table", ((0, move[1], None),), 0)))
        self.yes(walk_line(("table", ((9, move[1], 9), (0, move[1], 0)), None)))
        self.no(walk_line(("table", (move[:2],), 0)), walk_line(("table", (move + (1,),), 0)))
        self.no(walk_line(("table", [move], 0)), walk_line(("table", (list(move),), 0)), walk_line(("table", move, 0)))

    def test_letters_of_tables(self):
        for marks in ((), ("a",), ("a", "b"), ("a", "b", "c"), ("a", "a1", "aa")):
            self.yes(walk_line(("table", ((0, ("in", "team", marks), 0),), 0)))
        for marks in (("a", "b", "c", "d"), ("b", "a"), ("a", "a"), ("a", "c", "b"), ["a"], ("zz",), ("any",), (1,), None,
                      "a", (("a",),)):
            self.no(walk_line(("table", ((0, ("in", "team", marks), 0),), 0)))
        for letter in (("any", "team", ()), ("in", "thing", ()), ("in", "team"), ("in", "team", (), ()), (1, "team", ()),
                       ["in", "team", ()], "in", None):
            self.no(walk_line(("table", ((0, letter, 0),), 0)))

    def test_table_is_no_part(self):
        table = ("table", (), 0)
        self.yes(walk_line(table))
        for walk in (("star", table), ("plus", table), ("maybe", table), ("upto", table, 1), ("then", table, STEP),
                     ("then", STEP, table), ("or", table, STEP), ("or", STEP, table)):
            self.no(walk_line(walk))

    def test_conds(self):
        self.yes(*[when_line(cond) for cond, _ in CONDS], *[policy(cond=cond) for cond, _ in CONDS])
        for cond, _ in CONDS:
            self.no(when_line((*cond, "x")), when_line(("x", *cond[1:])))
            if len(cond) > 1:
                self.no(when_line(cond[:-1]))
        for thing in JUNK:
            self.no(when_line(thing), when_line(("not", thing)), policy(cond=thing))
            for word in ("and", "or"):
                self.no(when_line((word, FLAG, thing)), when_line((word, thing, FLAG)))
            if thing not in ("a", "walk"):
                self.no(when_line(("flag", thing)), when_line(("named", thing)), when_line(("tag", "asker", thing)))
                self.no(when_line(("walk", thing, "thing")), when_line(("walk", "w", thing)))

    def test_atoms(self):
        self.no(when_line(("tag", "ask", "gold")), when_line(("tag", "group", "gold")), when_line(("tag", "gold")))
        self.yes(when_line(("walk", "w", "thing")), when_line(("walk", "w", "things")))
        self.no(when_line(("walk", "w", "asker")), when_line(("walk", STEP, "thing")), when_line(("walk", "any", "b")))
        self.no(when_line(("flag", "ask")), when_line(("named", "when")), when_line(("always", ())))

    def test_depth_of_conds(self):
        for part in (FLAG, ("always",), ("named", "c"), ("atmost", "now", "0", 0), ("walk", "w", "thing")):
            self.yes(when_line(chained(part, 12)), policy(cond=chained(part, 12)))
            self.no(when_line(chained(part, 13)), policy(cond=chained(part, 13)))
        for word in ("and", "or"):
            self.yes(when_line((word, chained(FLAG, 11), FLAG)), when_line((word, FLAG, chained(FLAG, 11))))
            self.no(when_line((word, chained(FLAG, 12), FLAG)), when_line((word, FLAG, chained(FLAG, 12))))
        self.no(when_line(chained(FLAG, 100000)))

    def test_terms(self):
        for term in ("now", "0", "asker.level", "thing.level", "ask.amount", "ask.a", "asker.abcdefgh"):
            self.yes(when_line(("atmost", term, "0", 0)), when_line(("atmost", "0", term, 0)))
        for term in ("", "1", "00", "asker", "ask", "asker.", ".level", "group.level", "asker.level.x", "asker. level",
                     "asker.zz0", "ask.now", "level", "now.x", "0.x", "asker..a", None, 0, True, False, ("now",), ["now"]):
            self.no(when_line(("atmost", term, "0", 0)), when_line(("atmost", "0", term, 0)))

    def test_gaps(self):
        for gap in (0, 1, -1, 9999, -9999):
            self.yes(when_line(("atmost", "now", "0", gap)))
        for gap in (10000, -10000, True, False, None, "0", (0,)):
            self.no(when_line(("atmost", "now", "0", gap)))

    def test_zero_and_one_are_no_truths_and_the_other_way_round(self):
        self.no(walk_line(("step", "in", (("gold", 1),))), walk_line(("step", "in", (("gold", 0),))))
        self.no(policy(rank=True), walk_line(("upto", STEP, True)), when_line(("atmost", "now", "0", False)))
        self.no(walk_line(("table", (), True)), walk_line(("table", (), False)))

    def test_whatever_stands_there_however_deep(self):
        things = [deep_tuple(deep) for deep in (1, 12, 13, 1000, 200000)]
        things += [("and", *[things[-1]] * 2), [things[-1]], (things[-1], "a"), ("a", things[-1])]
        for thing in things:
            self.assertIs(is_tree(thing), False)
            self.assertIs(is_tree((thing,)), False)
            for line, _ in LINES:
                for changed in parts_changed(line, thing):
                    self.assertIs(is_tree((changed,)), False)

    def test_shared_parts(self):
        cond = FLAG
        for _ in range(60):
            cond = ("and", cond, cond)
        self.no(when_line(cond))
        walk = STEP
        for _ in range(60):
            walk = ("then", walk, walk)
        self.no(walk_line(walk))


if __name__ == "__main__":
    unittest.main()
