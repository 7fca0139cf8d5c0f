"""The faults of trees [11], [12]."""

import random
import unittest

from leaveledger.faults import faults
from leaveledger.reading import read
from leaveledger.sizes import cond_size, walk_size
from leaveledger.trees import is_tree
from tests import chance as by_chance
from tests.plainfaults import plain_faults
from tests.samples import EXAMPLE, TOWN

PLAN = """\
asker clerk guest ;
group team box ;
thing paper memo ;
badge auditor ;
tag gold on team clerk ;
tag fine on paper ;
number level on clerk paper ;
flag inside ;
asked amount ;
action view copy ;
duty log ;
tie in from clerk team to team box ;
tie keeps from clerk team to paper auditor ;
walk sees = in* keeps ;
walk chart = table 0 keeps paper [] 1 final 1 ;
when calm = ask is inside ;
role reader = view ;
"""
MANY = 17
LET = "let p rank 1 clerk may view on paper when"
# A line of each kind that declares this name, and nothing else that would be a fault behind the plan.
DECLARING = (
    "asker {};", "group {};", "thing {};", "badge {};", "tag {} on paper;", "number {} on clerk;", "flag {};", "asked {};",
    "action {};", "duty {};", "tie {} from clerk to team;", "walk {} = in;", "walk {} = table final 0;", "when {} = always;",
    "role {} = view;", "let {} rank 1 clerk may view on paper when always;",
    "bar {} rank 1 clerk may view on paper when always;",
)


def joined(text, many):
    """A condition with so many times another one, nested as little as can be."""
    if many == 1:
        return text
    return f"({joined(text, many // 2)} or {joined(text, many - many // 2)})"


class FaultsTest(unittest.TestCase):
    def check(self, text, *expected, plan=PLAN):
        """The faults of lines behind the plan, with their numbers from the end of the plan on."""
        found = faults(read(plan + text))
        skipped = len(read(plan))
        self.assertEqual(tuple((at - skipped, fault) for at, fault in found), expected, text)

    def test_none(self):
        self.assertEqual(faults(()), ())
        self.assertEqual(faults(read(EXAMPLE)), ())
        self.assertEqual(len(read(PLAN)), MANY)
        self.check("")
        self.check(f"never in [gold] to [-gold] ; gate in by view on k ; gate node by view on k ; "
                   f"gate tag by copy on k ; gate rule by copy on k ; {LET} by chart to thing "
                   "or @calm and asker.level <= ask.amount and thing is fine due log ;")

    def test_twice(self):
        for name in ("clerk", "team", "paper", "auditor", "gold", "level", "inside", "amount", "view", "log", "in", "sees",
                     "chart", "calm", "reader"):
            twice = (0, ("twice", name))
            for line in DECLARING:
                self.check(line.format(name), twice)
        self.check("asker new clerk newer view;", (0, ("twice", "clerk")), (0, ("twice", "view")))
        self.check(f"{LET} always; {LET} always;", (1, ("twice", "p")))
        self.check(f"{LET} always; asker p;", (1, ("twice", "p")))

    def test_twice_by_lines_of_all_kinds(self):
        for first in DECLARING:
            self.check(first.format("x"))
            for second in DECLARING:
                self.check(first.format("x") + second.format("x"), (1, ("twice", "x")))
                self.check(first.format("x") + second.format("y") + second.format("x"), (2, ("twice", "x")))
        self.check("never in [] to []; never in [] to []; gate in by view on k; gate in by view on k;")

    def test_ahead_of_the_line(self):
        """Each sort of name is unknown in front of its line, and known behind it."""
        using = {
            "asker {};": ("tag y on {};", "number y on {};", "tie y from {} to team;",
                          "let y rank 1 {} may view on paper when always;"),
            "group {};": ("tag y on {};", "tie y from {} to team;", "tie y from clerk to {};",
                          "walk y = table 0 in {} [] 0 final 0;"),
            "thing {};": ("tag y on {};", "number y on {};", "tie y from clerk to {};",
                          "bar y rank 1 clerk may view on {} when always;"),
            "badge {};": ("tie y from clerk to {};", "when y = by sees to {};", "walk y = table 0 in {} [] 0 final 0;"),
            "tag {} on clerk;": ("when y = asker is {};", "when y = thing is {};"),
            "tag {} on team;": ("walk y = in[{}];", "never in [{}] to [];", "never in [] to [-{}];",
                                "walk y = table 0 in team [{}] 0 final 0;"),
            "number {} on clerk;": ("when y = asker.{} <= 0;", "when y = 0 <= thing.{};"),
            "flag {};": ("when y = ask is {};",), "asked {};": ("when y = ask.{} <= now;",),
            "action {};": ("role y = {};", "gate node by {} on k;", "let y rank 1 clerk may {} on paper when always;"),
            "duty {};": ("let y rank 1 clerk may view on paper when always due {};",),
            "tie {} from clerk to team;": ("never {} [] to [];", "walk y = {};", "gate {} by view on k;",
                                           "walk y = table 0 {} team [] 0 final 0;"),
            "walk {} = in;": ("walk y = @{};", "when y = by {} to thing;", "when y = by {} to auditor;"),
            "walk {} = table final 0;": ("when y = by {} to thing;",),
            "when {} = always;": ("when y = @{};", "let y rank 1 clerk may view on paper when not @{};"),
            "role {} = view;": ("let y rank 1 clerk may @{} on paper when always;",),
        }
        for line, rows in using.items():
            for row in rows:
                self.check(line.format("x") + row.format("x"))
                self.check(row.format("x") + line.format("x"), (0, ("unknown", "x")))
                self.check(row.format("x"), (0, ("unknown", "x")))

    def test_later_line_does_not_declare(self):
        self.check("asker sees; walk y = @sees;", (0, ("twice", "sees")))
        self.check("group clerk; number size on clerk;", (0, ("twice", "clerk")))
        self.check("walk sees = table final 0; walk y = @sees;", (0, ("twice", "sees")))
        self.check("asker new clerk; tag x on new;", (0, ("twice", "clerk")))

    def test_unknown(self):
        self.check("tag x on none clerk nothing;", (0, ("unknown", "none")), (0, ("unknown", "nothing")))
        self.check("tag x on later; asker later;", (0, ("unknown", "later")))
        self.check("walk w = @w;", (0, ("unknown", "w")))
        self.check("walk w = @v; walk v = in;", (0, ("unknown", "v")))
        self.check("when c = @c or @c;", (0, ("unknown", "c")), (0, ("unknown", "c")))
        self.check("tag x on x;", (0, ("unknown", "x")))
        self.check("gate none by nothing on k;", (0, ("unknown", "none")), (0, ("unknown", "nothing")))
        self.check("never none [no] to [yes];", (0, ("unknown", "none")), (0, ("unknown", "no")), (0, ("unknown", "yes")))

    def test_wrong(self):
        names = {"asker": "clerk", "group": "team", "thing": "paper", "badge": "auditor", "mark": "gold", "tag": "fine",
                 "number": "level", "flag": "inside", "asked": "amount", "action": "view", "duty": "log", "tie": "in",
                 "walk": "sees", "table": "chart", "when": "calm", "role": "reader", "policy": "q"}
        fitting = {
            "tag x on {};": "asker group thing", "number x on {};": "asker thing",
            "tie x from {} to team;": "asker group", "tie x from clerk to {};": "group thing badge",
            "never {} [] to [];": "tie", "never in [{}] to [];": "mark", "never in [] to [{}];": "mark",
            "walk x = {};": "tie", "walk x = in[-{}];": "mark", "walk x = @{};": "walk",
            "walk x = table 0 {} team [] 0 final 0;": "tie", "walk x = table 0 in {} [] 0 final 0;": "group thing badge",
            "walk x = table 0 in team [{}] 0 final 0;": "mark", "when x = asker is {};": "mark tag",
            "when x = thing is {};": "mark tag", "when x = ask is {};": "flag", "when x = by {} to thing;": "walk table",
            "when x = by sees to {};": "badge", "when x = @{};": "when", "when x = asker.{} <= 0;": "number",
            "when x = 0 <= thing.{};": "number", "when x = ask.{} <= 0;": "asked", "role x = {};": "action",
            "gate {} by view on k;": "tie", "gate tag by {} on k;": "action",
            "let x rank 1 {} may view on paper when always;": "asker", "let x rank 1 clerk may {} on paper when always;": "action",
            "let x rank 1 clerk may @{} on paper when always;": "role", "let x rank 1 clerk may view on {} when always;": "thing",
            "let x rank 1 clerk may view on paper when always due {};": "duty",
        }
        plan = PLAN + "bar q rank 1 clerk may view on paper when always;"
        for text, sorts in fitting.items():
            for sort, name in names.items():
                expected = [] if sort in sorts.split() else [(0, ("wrong", name))]
                self.check(text.format(name), *expected, plan=plan)

    def test_group_tags_wherever_the_kind_is_declared(self):
        plan = "asker a; tag t on g; tie i from a to g; group g; walk w = i[t];"
        self.assertEqual(faults(read(plan)), ((1, ("unknown", "g")), (2, ("unknown", "g"))))
        plan = "asker a; group h; tag t on g; tie i from a to h; thing g; walk w = i[t];"
        self.assertEqual(faults(read(plan)), ((2, ("unknown", "g")), (5, ("wrong", "t"))))

    def test_names_mean_what_the_first_line_tells(self):
        # A line with a fault declares its other names, and its own name too.
        self.check("walk w = none; walk v = @w in;", (0, ("unknown", "none")))
        self.check("tag x on none team; walk v = in[x];", (0, ("unknown", "none")))
        self.check("walk w = none; walk w = table final 0; walk v = @w;", (0, ("unknown", "none")), (1, ("twice", "w")))

    def test_order_in_a_line(self):
        self.check("let sees rank 1 none clerk may @nay view @view on nil when asker is no and by x to y or "
                   "asker.a <= thing.b and ask.c <= now and @d due e log;",
                   *[(0, fault) for fault in (
                       ("twice", "sees"), ("unknown", "none"), ("unknown", "nay"), ("wrong", "view"),
                       ("unknown", "nil"), ("unknown", "no"), ("unknown", "x"), ("unknown", "y"), ("unknown", "a"),
                       ("unknown", "b"), ("unknown", "c"), ("unknown", "d"), ("unknown", "e"),
                   )])
        self.check("tie sees from paper none to guest auditor;", (0, ("twice", "sees")), (0, ("wrong", "paper")),
                   (0, ("unknown", "none")), (0, ("wrong", "guest")))
        self.check("walk x = (a[b -c] | @d)* any[e] in{2} f;", *[(0, ("unknown", name)) for name in "abcdef"])
        self.check("walk x = table 0 a b [c d] 1 | 1 e f [] 0 final 0;", *[(0, ("unknown", name)) for name in "abcdef"])
        self.check("when x = by a to thing or not (ask is b and by c to d);", *[(0, ("unknown", name)) for name in "abcd"])

    def test_many_group_tags(self):
        self.check("tag t2 on team; tag t3 on clerk; tag t4 on box clerk; tag t5 on box; tag t6 on clerk; tag t7 on team;",
                   (3, ("many", "t5")), (5, ("many", "t7")))
        self.check("tag t2 on team; tag t2 on team; tag t3 on team; tag t4 on team none;",
                   (1, ("twice", "t2")), (3, ("unknown", "none")), (3, ("many", "t4")))
        self.check("tag t2 on none team; tag t3 on level box; tag t4 on box;",
                   (0, ("unknown", "none")), (1, ("wrong", "level")), (2, ("many", "t4")))

    def test_long_walks(self):
        self.check("walk w = in in in in in in in keeps;")
        self.check("walk w = in in in in in in in in keeps;", (0, ("long", "w")))
        self.check("walk w = (in | keeps){4};")
        self.check("walk w = (in | keeps | in){3};", (0, ("long", "w")))
        self.check("walk w = in{4}; walk v = @w @w; walk u = @v in;", (2, ("long", "u")))
        self.check("walk w = in none in in in in in in in;", (0, ("unknown", "none")))
        self.check("walk in = in in in in in in in in in;", (0, ("twice", "in")))
        stars = "*" * 11
        self.check(f"walk w = in{stars}; walk v = @w{stars}; walk u = @v*******;")
        self.check(f"walk w = in{stars}; walk v = @w{stars}; walk u = @v********;", (2, ("long", "u")))
        self.check(f"walk w = in{stars}; walk v = @w{stars}; walk u = @v***{{4}};")
        self.check(f"walk w = in{stars}; walk v = @w{stars}; walk u = @v****{{4}};", (2, ("long", "u")))
        self.check("walk w = table " + "|".join(["0 in team [] 0"] * 50) + " final 0;")
        self.check("walk w = in{4}{4}{4}{4}{4}{4}{4}{4}{4}{4}{4};", (0, ("long", "w")))

    def test_long_conditions(self):
        ten = "when t = " + " or ".join(["@f", "@f"]) + ";"
        head = "when f = always and always and always and always and always;" + ten + "when s = @t or @t;"
        self.check(head + "when x = @s and @s;")
        self.check(head + "when x = @s and @s and always;", (3, ("long", "x")))
        self.check(head + "when x = @s and @s and ask is inside;", (3, ("long", "x")))
        self.check(head + "bar p rank 1 clerk may view on paper when @s and @s and always;", (3, ("long", "p")))
        self.check(head + f"{LET} @s and not @s;")
        self.check(head + f"{LET} @s and not @s and always;", (3, ("long", "p")))
        nots = "not " * 11
        self.check(f"when a = {nots} always; when b = {nots} @a; when c = {'not ' * 7} @b;")
        self.check(f"when a = {nots} always; when b = {nots} @a; when c = {'not ' * 8} @b;", (2, ("long", "c")))
        self.check(f"when a = {nots} always; when b = {nots} @a; {LET} {'not ' * 7} @b;")
        self.check(f"when a = {nots} always; when b = {nots} @a; {LET} {'not ' * 8} @b;", (2, ("long", "p")))
        # The depth of a walk is none of its condition.
        self.check(f"walk w = in{'*' * 11}; walk v = @w{'*' * 11}; when c = {nots} by v to thing; when d = {nots} @c;")

    def test_broken_ones_tell_no_more(self):
        long_walk = "walk w = in in in in in in in in in;"
        self.check(long_walk + "walk v = @w @w; walk u = @v @v none;", (0, ("long", "w")), (2, ("unknown", "none")))
        self.check(long_walk + "walk v = @w; when c = by v to thing; when d = @c; " + LET + " @d and thing is gold;",
                   (0, ("long", "w")))
        self.check("when c = ask is none; " + LET + " @c and asker is fine;", (0, ("unknown", "none")))
        self.check("when c = ask is inside; when c = ask is none; " + LET + " @c and asker is fine;",
                   (1, ("twice", "c")), (1, ("unknown", "none")), (2, ("unfit", "fine")))
        forty = " or ".join(["always"] * 5)
        self.check(f"when f = {forty}; when g = @f or @f or @f or @f or @f or @f or @f or @f; when h = @g or always; "
                   "when i = @h or always; when j = @g or @g;", (2, ("long", "h")), (4, ("long", "j")))

    def test_unfit(self):
        self.check(LET + " asker is gold and asker.level <= thing.level and thing is fine;")
        self.check("let p rank 1 clerk guest may view on paper memo when asker is gold and thing.level <= asker.level or "
                   "thing is fine and asker is gold;",
                   *[(0, ("unfit", name)) for name in ("gold", "level", "gold", "level", "fine")])
        self.check("let p rank 1 guest clerk may view on memo when thing.level <= thing.level;",
                   (0, ("unfit", "level")), (0, ("unfit", "level")))
        self.check("when c = asker is fine; bar p rank 1 clerk guest may view on paper when @c or not @c;",
                   *[(1, ("unfit", "fine"))] * 4)
        self.check("when c = asker is fine;")
        self.check("let p rank 1 guest may view on memo when asker is gold due none;", (0, ("unknown", "none")))
        self.check("let p rank 1 guest may view on memo when ask.amount <= now;")

    def eight(self, prefix, many):
        """A condition with so many different atoms."""
        return " and ".join([f"ask.amount <= {prefix} + {at}" for at in range(1, many + 1)])

    def test_many_atoms(self):
        self.check(f"{LET} {self.eight('now', 8)};")
        self.check(f"{LET} {self.eight('now', 8)} and ({self.eight('now', 8)}) and always;")
        self.check(f"{LET} {self.eight('now', 9)};", (0, ("many", "p")))
        both = f"{LET} {self.eight('now', 5)}; bar q rank 1 clerk may %s on paper when {self.eight('0', 4)};"
        self.check(both % "view", (1, ("many", "q")))
        self.check(both.replace("let p", "bar p") % "view", (1, ("many", "q")))
        self.check(both.replace("bar q", "let q") % "view", (1, ("many", "q")))
        self.check(both % "copy")
        self.check(both % "copy view", (1, ("many", "q")))
        self.check(both % "@reader", (1, ("many", "q")))
        self.check(both.replace("bar q rank 1 clerk", "bar q rank 1 guest") % "view")
        self.check(both.replace("0 + 4", "now + 4") % "view")
        self.check(f"walk x = in{{2}}; walk y = in? in?; {LET} by x to thing and {self.eight('now', 7)}; "
                   "let q rank 2 clerk may view on paper when by y to thing;")

    def test_policies_that_do_not_count(self):
        last = f"bar q rank 1 clerk may view on paper when {self.eight('0', 4)};"
        first = f"{LET} {self.eight('now', 5)} due none;"
        self.check(first + last, (0, ("unknown", "none")))
        self.check(f"{LET} {self.eight('now', 9)};" + last, (0, ("many", "p")))
        self.check(f"{LET} {self.eight('now', 5)} and thing is gold;" + last, (0, ("unfit", "gold")))
        self.check(f"when c = ask is none; {LET} {self.eight('now', 5)} and @c;" + last, (0, ("unknown", "none")))
        self.check(f"duty p; {LET} {self.eight('now', 5)};" + last, (1, ("twice", "p")))
        self.check(f"{LET} {self.eight('now', 5)};" + last + "let r rank 1 clerk may view on paper when ask is inside;",
                   (1, ("many", "q")))

    def test_roles_with_faults(self):
        role = "role r = none view;"
        self.check(f"{role} let p rank 1 clerk may @r on paper when {self.eight('now', 5)}; "
                   f"let q rank 1 clerk may view on paper when {self.eight('0', 4)};",
                   (0, ("unknown", "none")), (2, ("many", "q")))
        self.check("role r = copy; role r = view; let p rank 1 clerk may @r on paper when " + self.eight("now", 5)
                   + "; let q rank 1 clerk may view on paper when " + self.eight("0", 4) + ";", (1, ("twice", "r")))
        self.check("let p rank 1 clerk may @r on paper when always; role r = view;", (0, ("unknown", "r")))

    def test_which_faults_keep_others_from_being_looked_for(self):
        long_cond = joined("ask is inside", 41)
        long_one = f"when l = {joined('asker is fine', 20)};"
        # An earlier fault of the line keeps `long` away, and `long` keeps `unfit` and `many` away.
        self.check(f"{LET} {long_cond} due none;", (0, ("unknown", "none")))
        self.check(f"{LET} {long_cond} and thing is gold;", (0, ("long", "p")))
        self.check(f"{long_one} {LET} @l and @l or always;", (1, ("long", "p")))
        self.check(f"{long_one} {LET} @l and @l;", *[(1, ("unfit", "fine"))] * 40)
        self.check(f"{LET} {self.eight('now', 9)} and thing is gold;", (0, ("unfit", "gold")))
        self.check(f"{LET} {self.eight('now', 9)} and thing is gold due none;", (0, ("unknown", "none")))
        self.check(f"let calm rank 1 clerk may view on paper when {self.eight('now', 9)};", (0, ("twice", "calm")))
        # Group tags are counted behind other faults, too.
        self.check("tag t2 on team; tag t3 on team; tag t4 on none team clerk no;", (2, ("unknown", "none")),
                   (2, ("unknown", "no")), (2, ("many", "t4")))

    def test_broken_by_a_broken_one(self):
        head = "walk w = in none; walk v = @w; walk u = @v*; when c = by u to thing; when d = not @c;"
        first = (0, ("unknown", "none"))
        self.check(head + f"{LET} @d and thing is gold;", first)
        self.check(head + f"{LET} by v to thing and {self.eight('now', 9)};", first)
        self.check(head + f"walk x = @u (in{{4}}){{4}}; when y = @d or {joined('always', 41)};", first)
        self.check(head + f"{LET} {self.eight('now', 5)} and @d; bar q rank 1 clerk may view on paper when {self.eight('0', 4)};",
                   first)
        self.check("walk w = table 0 none team [] 0 final 0; when c = by w to thing and asker is fine; "
                   f"{LET} @c and thing is gold;", first)

    def test_against_the_plain_meaning(self):
        chance = random.Random(51)
        words = set()
        for _ in range(400):
            tree = by_chance.disturbed(chance, read(chance.choice((TOWN, EXAMPLE))), chance.randint(1, 4))
            if is_tree(tree):
                self.assertEqual(faults(tree), plain_faults(tree), tree)
                words |= {fault[0] for _, fault in faults(tree)}
        atoms = [("always",), ("flag", "inside"), ("tag", "asker", "gold"), ("tag", "thing", "fine"),
                 *[("atmost", "asker.level", "now", gap) for gap in range(6)], ("walk", "sees", "auditor")]
        for _ in range(600):
            tree = by_chance.with_lines(chance, read(PLAN), ("in", "keeps"), ("gold",), "sees", tuple(atoms))
            tree = by_chance.disturbed(chance, tree, chance.choice((0, 0, 0, 1)))
            if is_tree(tree):
                self.assertEqual(faults(tree), plain_faults(tree), tree)
                words |= {fault[0] for _, fault in faults(tree)}
        self.assertEqual(words, {"twice", "unknown", "wrong", "many", "long", "unfit"})

    def test_numbers_of_lines(self):
        tree = read("asker a; asker a; tag t on b; walk w = x; thing a;")
        self.assertEqual(faults(tree), ((1, ("twice", "a")), (2, ("unknown", "b")), (3, ("unknown", "x")),
                                        (4, ("twice", "a"))))


class SizesTest(unittest.TestCase):
    def test_walks(self):
        walk = ("upto", ("then", ("named", "w"), ("step", "a", ())), 3)
        self.assertEqual(walk_size(walk, {"w": ("star", ("step", "b", ()))}), (6, 6))
        self.assertEqual(walk_size(("upto", ("step", "a", ()), 1), {}), (1, 2))

    def test_conditions(self):
        cond = ("or", ("named", "c"), ("not", ("named", "c")))
        self.assertEqual(cond_size(cond, {"c": ("and", ("always",), ("flag", "f"))}), (4, 4))


if __name__ == "__main__":
    unittest.main()
