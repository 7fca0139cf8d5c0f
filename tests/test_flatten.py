"""Flat trees [13]."""

import unittest

from leaveledger.flatten import flat
from leaveledger.reading import read
from tests.samples import EXAMPLE

PLAN = """\
asker clerk guest ;
group team ;
thing paper memo ;
badge auditor ;
tag gold on team clerk ;
number level on clerk paper ;
flag inside late ;
asked amount ;
action view copy edit ;
duty log ;
tie in from clerk team to team ;
tie keeps from clerk team to paper auditor ;
never in [gold] to [-gold] ;
"""
HEAD = "rank 5 clerk guest may"
LEVEL = ("atmost", "asker.level", "thing.level", -2)
IN = ("step", "in", ())
KEEPS = ("step", "keeps", ())
GOLD = ("step", "in", (("gold", True),))


def flat_of(text):
    """The flat tree of a text behind the lines of the plan, without those."""
    plan = read(PLAN)
    tree = flat(plan + read(text))
    assert tree[:len(plan)] == plan
    return tree[len(plan):]


def cond_of(text, cond):
    """A condition, flat, behind the lines of a text."""
    return flat_of(f"{text} let p {HEAD} view on paper when {cond} due log ;")[-1][6]


def walk_of(text, walk):
    """A walk, flat, behind the lines of a text."""
    cond = cond_of(f"{text} walk last = {walk} ;", "by last to thing")
    assert cond[0] == "walk" and cond[2] == "thing"
    return cond[1]


class FlattenTest(unittest.TestCase):
    def test_lines_left_out(self):
        self.assertEqual(flat(()), ())
        self.assertEqual(flat_of("walk w = in ; when c = always ; role r = view ;"), ())
        self.assertEqual(flat_of("walk w = table final - ;"), ())

    def test_all_else_as_it_stood(self):
        text = PLAN + "gate in by view on hallkey ; gate rule by copy on hallkey ;"
        self.assertEqual(flat(read(text)), read(text))
        tree = flat_of("walk w = in ; gate in by view on k ; role r = copy ; tag old on guest ; when c = always ; duty x ;")
        self.assertEqual(tree, read("gate in by view on k ; tag old on guest ; duty x ;"))

    def test_parts_of_policies_that_stay(self):
        text = "let p rank 7 clerk guest may copy view on memo paper when ask is inside and not asker is gold due log ;"
        self.assertEqual(flat_of(text), read(text))
        text = "bar q rank 0 guest may edit on paper when asker.level <= thing.level - 2 or always ;"
        self.assertEqual(flat_of(text), read(text))

    def test_policies_keep_their_order(self):
        tree = flat_of("let b rank 1 clerk may view on paper when always; walk w = in; bar a rank 2 clerk may copy on memo "
                       "when always; role r = view; let c rank 3 clerk may @r on paper when always;")
        self.assertEqual([line[:3] for line in tree], [("let", "b", 1), ("bar", "a", 2), ("let", "c", 3)])

    def test_actions_each_once_where_it_stands_first(self):
        roles = "role r = view copy ; role s = edit view ;"
        for words, actions in (
            ("view", ("view",)), ("@r", ("view", "copy")), ("@s @r", ("edit", "view", "copy")),
            ("copy @r", ("copy", "view")), ("@r copy", ("view", "copy")), ("@r @s", ("view", "copy", "edit")),
            ("edit @s view @r", ("edit", "view", "copy")),
        ):
            self.assertEqual(flat_of(f"{roles} let p {HEAD} {words} on paper when always ;")[0][4], actions)

    def test_named_walks(self):
        self.assertEqual(walk_of("", "in keeps"), ("then", IN, KEEPS))
        self.assertEqual(walk_of("walk v = in* ;", "@v keeps"), ("then", ("star", IN), KEEPS))
        self.assertEqual(walk_of("walk u = in ; walk v = @u | @u* ;", "@v@v?"),
                         ("then", ("or", IN, ("star", IN)), ("maybe", ("or", IN, ("star", IN)))))
        self.assertEqual(walk_of("walk u = in keeps ;", "in @u"), ("then", IN, ("then", IN, KEEPS)))
        self.assertEqual(walk_of("walk u = in[gold] ;", "(@u+ | any[-gold])?"),
                         ("maybe", ("or", ("plus", GOLD), ("step", "any", (("gold", False),)))))

    def test_upto(self):
        maybe = ("maybe", IN)
        self.assertEqual(walk_of("", "in{1}"), maybe)
        self.assertEqual(walk_of("", "in{2}"), ("then", maybe, maybe))
        self.assertEqual(walk_of("", "in{3}"), ("then", ("then", maybe, maybe), maybe))
        self.assertEqual(walk_of("", "in{4}"), ("then", ("then", ("then", maybe, maybe), maybe), maybe))
        self.assertEqual(walk_of("walk v = in{2} ;", "@v{2}*"),
                         ("star", ("then", ("maybe", ("then", maybe, maybe)), ("maybe", ("then", maybe, maybe)))))

    def test_tables_stay(self):
        table = ("table", ((0, ("in", "team", ("gold",)), 1), (0, ("in", "team", ("gold",)), 1)), 1)
        self.assertEqual(walk_of("", "table 0 in team [gold] 1 | 0 in team [gold] 1 final 1"), table)
        self.assertEqual(walk_of("", "table final -"), ("table", (), None))

    def test_conditions(self):
        self.assertEqual(cond_of("", "always"), ("always",))
        self.assertEqual(cond_of("when c = ask is inside ;", "@c"), ("flag", "inside"))
        self.assertEqual(cond_of("when c = ask is inside ; when d = not @c and @c ;", "@d or @c"),
                         ("or", ("and", ("not", ("flag", "inside")), ("flag", "inside")), ("flag", "inside")))
        self.assertEqual(cond_of("when c = asker.level <= thing.level - 2 ;", "not @c"), ("not", LEVEL))
        self.assertEqual(cond_of("when c = asker is gold ;", "@c and asker is gold"),
                         ("and", ("tag", "asker", "gold"), ("tag", "asker", "gold")))

    def test_walks_in_conditions(self):
        self.assertEqual(cond_of("walk w = in keeps ;", "by w to auditor"), ("walk", ("then", IN, KEEPS), "auditor"))
        self.assertEqual(cond_of("walk v = in{2} ; walk w = @v keeps ; when c = by w to thing ;", "not @c or by v to auditor"),
                         ("or", ("not", ("walk", ("then", ("then", ("maybe", IN), ("maybe", IN)), KEEPS), "thing")),
                          ("walk", ("then", ("maybe", IN), ("maybe", IN)), "auditor")))
        self.assertEqual(cond_of("walk w = table final 0 ;", "by w to thing"), ("walk", ("table", (), 0), "thing"))

    def test_example(self):
        tree = flat(read(EXAMPLE))
        self.assertEqual(len(tree), 13)
        self.assertEqual(tree[11][6], ("walk", ("then", ("star", IN), KEEPS), "thing"))
        gilt = ("then", ("then", ("then", ("star", IN), GOLD), ("star", IN)), KEEPS)
        self.assertEqual(tree[12][6], ("and", ("not", ("flag", "inside")), ("not", ("walk", gilt, "thing"))))

    def test_tree_is_left_as_it_was(self):
        tree = read(EXAMPLE)
        first = flat(tree)
        self.assertEqual(flat(read(PLAN)), read(PLAN))
        self.assertEqual(flat(tree), first)
        self.assertEqual(tree, read(EXAMPLE))


if __name__ == "__main__":
    unittest.main()
