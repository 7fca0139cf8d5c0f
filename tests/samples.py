"""Trees and texts that several tests use."""

EXAMPLE = """\
asker clerk guest ;
group team ;
thing paper ;
badge auditor ;
tag gold on team ;
flag inside ;
action view edit ;
duty log ;
tie in from clerk guest team to team ;
tie keeps from clerk team to paper ;
tie wears from clerk team to auditor ;
walk sees = in* keeps ;
walk gilt = in* in[gold] in* keeps ;
let p1 rank 5 clerk may view on paper when by sees to thing due log ;
bar p2 rank 7 clerk may view on paper when not ask is inside and not by gilt to thing ;
"""

# A book with several of everything, flags, asked numbers and actions also on lines that stand apart.
TOWN = """\
asker clerk guest ;
group team box ;
thing paper memo ;
badge auditor boss ;
tag gold on team clerk ;
tag old on team box paper ;
tag fine on clerk paper ;
number level on clerk guest paper ;
number size on paper memo ;
flag inside late ;
asked amount ;
flag third ;
asked sum ;
action view copy ;
duty log tell ring ;
tie in from clerk guest team to team box ;
tie keeps from clerk team to paper memo auditor ;
tie tops from box guest to box boss paper ;
never in [gold] to [-gold] ;
never tops [old] to [] ;
walk sees = in* keeps ;
walk gilt = in* in[gold] in* keeps ;
walk far = (in | tops){3} any[-old] ;
walk chart = table 1 keeps paper [] 2 | 0 in team [] 0 | 0 in team [gold] 1 | 1 keeps paper [] 2 final 2 ;
walk boxed = any+ ;
when calm = ask is inside and not ask is late ;
when high = asker.level <= ask.amount + 2 or @calm ;
role both = copy view ;
action edit ;
let p1 rank 5 clerk guest may @both on paper when by sees to thing due log tell ;
let p2 rank 7 clerk may view on paper memo when @high and by gilt to thing due ring log ;
bar p3 rank 7 clerk guest may view edit on paper when ask is third and asker.level <= 0 + 3 ;
let p4 rank 7 clerk may copy on paper when by far to thing and thing.size <= now due tell ;
bar p5 rank 5 guest may view on paper memo when not @calm ;
bar p6 rank 9 clerk may copy on paper when by chart to thing and by boxed to boss and ask.sum <= 0 + 4 ;
let p7 rank 0 clerk guest may view edit on paper memo when always ;
bar p8 rank 9 clerk may edit on paper when asker is gold and thing is old or by sees to auditor ;
let p9 rank 7 clerk may view on paper when ask is third or ask is inside due log ring ;
let p10 rank 5 guest may copy on memo when by boxed to thing or asker.level <= thing.size - 4 ;
"""

# A small book in which words come soon to all that there is.
SMALL = """\
asker clerk ;
group team box ;
thing paper ;
badge boss ;
tag gold on team ;
tie in from clerk team to team box ;
tie keeps from clerk box to paper boss ;
never in [gold] to [] ;
walk deep = in{2} keeps ;
"""

# A book with a few of everything, for what is told of its worlds.
REALM = """\
asker clerk ;
group team box ;
thing paper ;
badge boss ;
tag gold on team ;
tie in from clerk team to team box ;
tie keeps from clerk team box to paper boss ;
never in [gold] to [gold] ;
walk deep = in{2} keeps ;
tag fine on clerk paper ;
tag old on clerk ;
number level on clerk paper ;
flag inside late ;
asked amount ;
action view copy ;
duty log tell ;
walk near = in? keeps ;
walk gilt = in* in[gold] in* keeps ;
walk all = in* keeps ;
walk chart = table 0 in team [] 1 | 1 in box [] 2 | 1 in team [] 0 | 2 keeps paper [] 3 final 3 ;
when calm = ask is inside or asker.level <= thing.level + 2 ;
let p1 rank 5 clerk may view on paper when by all to thing and not asker is old due log ;
bar p2 rank 7 clerk may view on paper when by gilt to thing and not thing is fine ;
let p3 rank 9 clerk may view on paper when by near to boss and @calm due tell ;
let p4 rank 3 clerk may copy on paper when by deep to thing or by chart to thing due log tell ;
bar p5 rank 3 clerk may copy on paper when ask.amount <= now - 4 and not by near to thing ;
"""

# A book in which a word from a clerk to a paper has any number of letters, and nothing else but this number.
RINGS = """\
asker clerk ;
group team ;
thing paper ;
action view ;
tie in from clerk team to team ;
tie keeps from clerk team to paper ;
"""

STEP = ("step", "in", ())

# A line of each of the eighteen kinds, its text, and in front of the text nothing else that a line may need.
LINES = [
    (("asker", ("clerk", "guest")), "asker clerk guest ;"),
    (("group", ("team", "box")), "group team box ;"),
    (("thing", ("paper",)), "thing paper ;"),
    (("badge", ("auditor",)), "badge auditor ;"),
    (("tag", "gold", ("clerk", "team")), "tag gold on clerk team ;"),
    (("number", "level", ("clerk", "paper")), "number level on clerk paper ;"),
    (("flag", ("inside",)), "flag inside ;"),
    (("asked", ("amount",)), "asked amount ;"),
    (("action", ("view", "copy")), "action view copy ;"),
    (("duty", ("log",)), "duty log ;"),
    (("tie", "keeps", ("clerk", "team"), ("paper", "auditor")), "tie keeps from clerk team to paper auditor ;"),
    (("never", "in", (("gold", True),), (("gold", False), ("old", True))), "never in [ gold ] to [ - gold old ] ;"),
    (("never", "in", (), ()), "never in [ ] to [ ] ;"),
    (("walk", "sees", ("then", ("star", STEP), ("step", "keeps", ()))), "walk sees = in * keeps ;"),
    (("walk", "t", ("table", ((0, ("in", "team", ("gold", "old")), 39), (39, ("keeps", "paper", ()), 1)), 1)),
     "walk t = table 0 in team [ gold old ] 39 | 39 keeps paper [ ] 1 final 1 ;"),
    (("walk", "t", ("table", (), None)), "walk t = table final - ;"),
    (("when", "calm", ("flag", "inside")), "when calm = ask is inside ;"),
    (("role", "reader", ("view", "copy")), "role reader = view copy ;"),
    (("gate", "in", "admit", "hallkey"), "gate in by admit on hallkey ;"),
    (("gate", "node", "admit", "hallkey"), "gate node by admit on hallkey ;"),
    (("gate", "tag", "admit", "hallkey"), "gate tag by admit on hallkey ;"),
    (("gate", "rule", "admit", "hallkey"), "gate rule by admit on hallkey ;"),
    (("let", "p1", 5, ("clerk",), ("view", "@reader"), ("paper",), ("walk", "sees", "thing"), ("log",)),
     "let p1 rank 5 clerk may view @ reader on paper when by sees to thing due log ;"),
    (("let", "p1", 0, ("clerk", "guest"), ("view",), ("paper", "memo"), ("always",), ()),
     "let p1 rank 0 clerk guest may view on paper memo when always ;"),
    (("bar", "p2", 99, ("clerk",), ("view",), ("paper",), ("not", ("flag", "inside")), ()),
     "bar p2 rank 99 clerk may view on paper when not ask is inside ;"),
]

# Walks and their texts.
A = ("step", "a", ())
B = ("step", "b", ())
C = ("step", "c", ())
WALKS = [
    (A, "a"),
    (("step", "any", ()), "any"),
    (("step", "a", (("x", True), ("y", False))), "a [ x - y ]"),
    (("step", "any", (("x", False),)), "any [ - x ]"),
    (("named", "w"), "@ w"),
    (("then", A, B), "a b"),
    (("then", ("then", A, B), C), "a b c"),
    (("then", A, ("then", B, C)), "a ( b c )"),
    (("or", A, B), "a | b"),
    (("or", ("or", A, B), C), "a | b | c"),
    (("or", A, ("or", B, C)), "a | ( b | c )"),
    (("or", ("then", A, B), C), "a b | c"),
    (("or", A, ("then", B, C)), "a | b c"),
    (("then", ("or", A, B), C), "( a | b ) c"),
    (("then", A, ("or", B, C)), "a ( b | c )"),
    (("star", A), "a *"),
    (("plus", A), "a +"),
    (("maybe", A), "a ?"),
    (("upto", A, 4), "a { 4 }"),
    (("star", ("plus", ("maybe", ("upto", A, 1)))), "a { 1 } ? + *"),
    (("star", ("then", A, B)), "( a b ) *"),
    (("upto", ("or", A, B), 2), "( a | b ) { 2 }"),
    (("then", A, ("star", B)), "a b *"),
    (("then", ("star", A), B), "a * b"),
    (("star", ("named", "w")), "@ w *"),
    (("maybe", ("step", "a", (("x", True),))), "a [ x ] ?"),
]

# Conditions and their texts.
F = ("flag", "f")
G = ("flag", "g")
H = ("flag", "h")
CONDS = [
    (("always",), "always"),
    (("tag", "asker", "gold"), "asker is gold"),
    (("tag", "thing", "gold"), "thing is gold"),
    (F, "ask is f"),
    (("walk", "w", "thing"), "by w to thing"),
    (("walk", "w", "auditor"), "by w to auditor"),
    (("named", "calm"), "@ calm"),
    (("atmost", "asker.level", "thing.level", 0), "asker . level <= thing . level"),
    (("atmost", "ask.amount", "now", 3), "ask . amount <= now + 3"),
    (("atmost", "0", "thing.level", -3), "0 <= thing . level - 3"),
    (("atmost", "now", "0", 9999), "now <= 0 + 9999"),
    (("atmost", "0", "ask.amount", -9999), "0 <= ask . amount - 9999"),
    (("not", F), "not ask is f"),
    (("not", ("not", F)), "not not ask is f"),
    (("and", F, G), "ask is f and ask is g"),
    (("and", ("and", F, G), H), "ask is f and ask is g and ask is h"),
    (("and", F, ("and", G, H)), "ask is f and ( ask is g and ask is h )"),
    (("or", F, G), "ask is f or ask is g"),
    (("or", ("or", F, G), H), "ask is f or ask is g or ask is h"),
    (("or", F, ("or", G, H)), "ask is f or ( ask is g or ask is h )"),
    (("or", ("and", F, G), H), "ask is f and ask is g or ask is h"),
    (("or", F, ("and", G, H)), "ask is f or ask is g and ask is h"),
    (("and", ("or", F, G), H), "( ask is f or ask is g ) and ask is h"),
    (("and", F, ("or", G, H)), "ask is f and ( ask is g or ask is h )"),
    (("not", ("and", F, G)), "not ( ask is f and ask is g )"),
    (("not", ("or", F, G)), "not ( ask is f or ask is g )"),
    (("and", ("not", F), G), "not ask is f and ask is g"),
    (("and", F, ("not", G)), "ask is f and not ask is g"),
    (("or", ("not", F), ("not", G)), "not ask is f or not ask is g"),
]


def walk_line(walk):
    """A line with a walk."""
    return ("walk", "x", walk)


def when_line(cond):
    """A line with a condition."""
    return ("when", "x", cond)


def policy(word="let", name="p", rank=1, askers=("clerk",), actions=("view",), things=("paper",),
           cond=("always",), duties=()):
    """A policy."""
    return (word, name, rank, askers, actions, things, cond, duties)


def chained(part, deep, *, word="not"):
    """A part within a word with one part, so many deep in all."""
    for _ in range(deep - 1):
        part = (word, part)
    return part

# A book for houses: with gates, with comparisons with now, and with bars.
HOUSE = """\
asker clerk guest ;
group team ;
thing paper door ;
badge boss ;
tag gold on team ;
tag old on clerk paper ;
number level on clerk guest paper ;
flag inside ;
asked amount ;
action view edit admit ;
duty log ;
tie in from clerk guest team to team ;
tie keeps from clerk guest team to paper door boss ;
tie owns from clerk to paper ;
walk sees = in* keeps ;
walk boss1 = in keeps ;
role both = edit view ;
gate in by admit on hall ;
gate in by edit on desk ;
gate node by admit on desk ;
gate rule by edit on rules ;
gate tag by view on memo ;
let p1 rank 5 clerk guest may view on paper when by sees to thing and now <= asker.level + 20 due log ;
bar p2 rank 7 guest may @both on paper when asker.level <= now - 9 and ask is inside ;
let p3 rank 3 clerk may admit on door when not asker is old ;
let p4 rank 4 clerk may edit on paper door when by sees to thing or asker.level <= now - 15 ;
bar p5 rank 4 clerk may view edit on paper when asker is old and now <= thing.level + 6 ;
let p6 rank 2 guest may admit on door when by boss1 to boss and ask.amount <= 0 + 3 ;
"""
