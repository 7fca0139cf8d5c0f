"""Equal arguments give equal results, arguments stay as they were, and what failed has changed nothing [2]."""

import copy
import random
import unittest

from leaveledger.answers import answer, stands
from leaveledger.back import comers
from leaveledger.books import Book
from leaveledger.bounds import judge_ring, settle
from leaveledger.claimjudge import judge_claim
from leaveledger.claims import claimed
from leaveledger.combine import combined, table_of
from leaveledger.counting import always_passed, count_words, extent, place_of, word_at, words_of
from leaveledger.deciding import Decider, decide, worths_of
from leaveledger.deeds import done
from leaveledger.errors import LeaveError
from leaveledger.faults import faults
from leaveledger.flatten import flat
from leaveledger.follows import follows, opposite, tightest
from leaveledger.grounds import ground, weaker
from leaveledger.growing import link_claim
from leaveledger.growjudge import judge_link_claim
from leaveledger.house import House
from leaveledger.keeper import Keeper
from leaveledger.languages import Language
from leaveledger.leastbook import least_book
from leaveledger.ledger import audit, replayed, tried
from leaveledger.letters import is_word, letters
from leaveledger.machines import machine, takes
from leaveledger.maps import judge_map
from leaveledger.narrowing import narrowed
from leaveledger.nevers import judge_never
from leaveledger.parting import machine_parting, parting, path_world
from leaveledger.peers import judge_peers, peers
from leaveledger.places import Places
from leaveledger.queries import what, who
from leaveledger.reach import reached, steps_to
from leaveledger.reading import read
from leaveledger.realizing import realize
from leaveledger.reasons import judge_reason, reason
from leaveledger.shortest import shortest
from leaveledger.shut import judge_shut, shut
from leaveledger.sights import bare, is_sight, judge_completion, sight_of
from leaveledger.store import Store
from leaveledger.sure import judge_sure, sure
from leaveledger.tables import table, yes_table
from leaveledger.tokens import tokens_of
from leaveledger.trees import is_tree
from leaveledger.walked import walked
from leaveledger.watch import Watch
from leaveledger.within import judge_within, within
from leaveledger.worlds import is_world, row_of, world_of
from leaveledger.writing import write, write_cond, write_walk
from tests import chance as by_chance
from tests.samples import EXAMPLE, LINES

TREE = read(EXAMPLE)
BOOK = Book(TREE)
OTHER = Book(read("asker clerk; group team; thing paper; tag gold on team clerk; tie in from clerk to team paper;"))
NODES = [("red", "team", ("gold",)), ("ana", "clerk", ()), ("memo", "paper", ())]
LINKS = [("red", "keeps", "memo"), ("ana", "in", "red")]
WORLD = world_of(BOOK, NODES, LINKS)
WORD = (("in", "team", ()), ("keeps", "paper", ()))
ASK = ("ana", "view", "memo", (False,), (), 0)
SEES, GILT = ("named", "sees"), ("named", "gilt")
COND = ("or", ("walk", "gilt", "thing"), ("not", ("flag", "inside")))
TABLE = ("table", ((0, WORD[0], 0), (0, WORD[1], 1), (0, WORD[1], 1)), 1)
FRAME = ("clerk", "view", "paper")
BOUNDS = [("a", "b", -3), ("b", "0", 40), ("c", "a", -1)]
NO_BOUNDS = [*BOUNDS, ("0", "c", -40)]
RING = (("c", "a", -1), ("a", "b", -3), ("b", "0", 40), ("0", "c", -40))
PLACES, OTHER_PLACES = Places(BOOK, GILT), Places(BOOK, TABLE)
LANGUAGE, OTHER_LANGUAGE = Language(BOOK, "clerk", SEES, "paper"), Language(BOOK, "clerk", TABLE, "paper")


def calls():
    """Pairs of a function and its arguments."""
    found = [
        (is_tree, (TREE,)), (is_tree, (list(TREE),)), (tokens_of, (EXAMPLE,)), (read, (EXAMPLE,)), (read, ("asker",)),
        (read, ("asker a a;",)), (write, (TREE,)), (flat, (TREE,)), (faults, (TREE,)), (faults, (TREE + TREE,)),
        (letters, (BOOK, ("clerk", ()))), (letters, (OTHER, ("clerk", ()))), (letters, (BOOK, ("team", ("gold",)))),
        (is_word, (BOOK, "clerk", "paper", WORD)), (is_word, (OTHER, "clerk", "paper", WORD)),
        (world_of, (BOOK, NODES, LINKS)), (world_of, (OTHER, NODES, LINKS)), (world_of, (BOOK, NODES, LINKS[::-1], [])),
        (world_of, (BOOK, NODES, LINKS + LINKS)), (world_of, (BOOK, NODES * 30, LINKS)), (is_world, (BOOK, WORLD)),
        (is_world, (OTHER, WORLD)), (row_of, (WORLD, "ana", "in")), (row_of, (WORLD, "memo", "in")),
    ]
    found += [
        (walked, (BOOK, WORLD, walk, node)) for walk in (SEES, GILT, TABLE, ("upto", SEES, 2)) for node in ("ana", "red", "memo")
    ]
    found += [(stands, (BOOK, WORLD, ask, COND)) for ask in (ASK, ("ana", *ASK[1:3], [True], (), 0))]
    found += [(answer, (BOOK, WORLD, ask)) for ask in (ASK, ("red", *ASK[1:]), (*ASK[:3], (True,), (), 3))]
    found += [(done, (BOOK, WORLD, deed)) for deed in (
        ("node", "bob", "clerk", (), ()), ("node", "ana", "clerk", (), ()), ("drop", "red"), ("link", "ana", "keeps", "memo"),
        ("cut", "ana", "in", "red"), ("tag", "red", "gold", True), ["drop", "red"],
    )]
    for walk in (SEES, GILT, TABLE):
        found += [(machine, (BOOK, "clerk", walk, "paper")), (takes, (machine(BOOK, "clerk", walk, "paper"), WORD))]
    for places in (PLACES, OTHER_PLACES):
        found += [(places.__call__, (at, letter)) for at in ((0,), (0, 1), ()) for letter in WORD]
    for book in (BOOK, OTHER):
        found += [(book.atoms, (("clerk", "view", "paper"),)), (book.policies, (("clerk", "view", "paper"),))]
    found += [(BOOK.written, (GILT,)), (BOOK.written_cond, (COND,))]
    found += calls_about_words() + calls_about_worlds() + calls_about_numbers() + calls_about_all_worlds() + calls_about_changes()
    found += [(LANGUAGE.__contains__, (WORD,)), (LANGUAGE.__bool__, ()), (LANGUAGE.inside, (OTHER_LANGUAGE,)),
              (OTHER_LANGUAGE.inside, (LANGUAGE,)), (OTHER_LANGUAGE.__contains__, (WORD[:1],))]
    for line, text in LINES:
        found += [(is_tree, ((line,),)), (write, ((line,),)), (read, (text,)), (read, (text[:-1],)), (faults, ((line,),))]
    chance = random.Random(17)
    for _ in range(10):
        found += [(write_walk, (by_chance.expression(chance, 4),)), (write_cond, (by_chance.cond(chance, 4),))]
        found.append((faults, (by_chance.tree(chance, 3),)))
    return found


def all_words_of(machine, n):
    return tuple(words_of(machine, n))


def fewest_steps_to(book, world, walk, node, most):
    return steps_to(book, world, walk, node, most=most)


def decided(rows, valuation):
    """What a decider shows on its way."""
    decider = Decider(rows)
    shown = [(decider.wants, decider.value)]
    for _ in range(4):
        decider.told(decider.wants is not None and valuation[decider.wants])
        shown.append((decider.wants, decider.value))
    return tuple(shown)


def calls_about_words():
    """Pairs of a function and its arguments."""
    found = [(path_world, (BOOK, "clerk", WORD)), (path_world, (BOOK, "clerk", WORD[1:]))]
    for walk, other in ((SEES, GILT), (GILT, SEES), (SEES, TABLE), (TABLE, TABLE)):
        least = machine(BOOK, "clerk", walk, "paper")
        rows = within(BOOK, "clerk", walk, [other], "paper")
        found += [(parting, (BOOK, "clerk", walk, other, "paper")), (within, (BOOK, "clerk", walk, (other, GILT), "paper")),
                  (within, (BOOK, "clerk", walk, (other,), "paper")), (judge_within, (BOOK, "clerk", walk, (other,), "paper", rows[1])),
                  (machine_parting, (least, machine(BOOK, "clerk", other, "paper"))), (table_of, (least,)),
                  (combined, (BOOK, "clerk", ("both", ("of", walk), ("not", ("of", other))), "paper")), (extent, (least,)),
                  (count_words, (least, 7)), (word_at, (least, 4, 2)), (place_of, (least, WORD)), (always_passed, (least,)),
                  (all_words_of, (least, 5)), (table_of, ((((),) * 41, 3),))]
    return found


def calls_about_worlds():
    """Pairs of a function and its arguments."""
    found = []
    for walk in (SEES, GILT, TABLE):
        for node in ("ana", "red", "memo"):
            rows = (("ana", (0,)), ("memo", (1,)), ("red", (0, 1)))
            found += [(reached, (BOOK, WORLD, walk, node)), (steps_to, (BOOK, WORLD, walk, node)), (comers, (BOOK, WORLD, walk, node)),
                      (fewest_steps_to, (BOOK, WORLD, walk, node, 1)), (shortest, (BOOK, WORLD, walk, node, "memo")),
                      (shut, (BOOK, WORLD, walk, node, "memo")), (shut, (BOOK, WORLD, walk, node, "ana")),
                      (judge_shut, (BOOK, WORLD, walk, node, "ana", rows))]
    pairs = (("ana", "ana"), ("memo", "memo"), ("red", "red"))
    sight, partial = sight_of(BOOK, WORLD), (*ASK[:3], (None,), (), None)
    found += [(judge_map, (BOOK, WORLD, WORLD, pairs)), (judge_map, (BOOK, WORLD, (WORLD[0], (), ()), pairs)),
              (peers, (BOOK, WORLD, "ana", "ana")), (judge_peers, (BOOK, WORLD, "ana", "ana", peers(BOOK, WORLD, "ana", "ana")[1])),
              (judge_peers, (BOOK, WORLD, "ana", "ana", pairs)), (sight_of, (BOOK, WORLD)), (is_sight, (BOOK, sight)),
              (is_sight, (OTHER, sight)), (is_sight, (BOOK, WORLD)), (bare, (BOOK, FRAME)),
              (judge_completion, (BOOK, sight, partial, (WORLD, ASK))), (judge_completion, (BOOK, sight, ASK, (WORLD, partial)))]
    return found


def calls_about_numbers():
    """Pairs of a function and its arguments, also about tables."""
    found = [(opposite, (BOUNDS[0],)), (judge_ring, (NO_BOUNDS, RING)), (judge_ring, (BOUNDS, RING))]
    for bounds in (BOUNDS, NO_BOUNDS, tuple(BOUNDS), []):
        found += [(settle, (bounds,)), (follows, (bounds, ("c", "b", -4))), (follows, (bounds, ("c", "x", 3))),
                  (tightest, (bounds, "c", "b")), (tightest, (bounds, "x", "0"))]
    atoms = BOOK.atoms(FRAME)
    found += [(table, (BOOK, FRAME)), (yes_table, (BOOK, FRAME, atoms)), (yes_table, (BOOK, FRAME, atoms[::-1])), (table, (BOOK, FRAME[::-1]))]
    for rows in (table(BOOK, FRAME), yes_table(BOOK, FRAME, atoms)):
        found.append((worths_of, (rows, 5)))
        for valuation in ((True, False, True), (False, False, False)):
            least = reason(rows, valuation)
            found += [(decide, (rows, valuation)), (decided, (rows, valuation)), (reason, (rows, valuation)),
                      (judge_reason, (rows, decide(rows, valuation)[0], least)), (judge_reason, (rows, 0, least))]
    return found


def kept(book, world, asks, deeds):
    """What a keeper shows when it is asked, and changes its world, and is asked again."""
    keeper = Keeper(book, world)
    shown = [repr(outcome(keeper.asked, (ask,))) for ask in asks]
    for deed in deeds:
        shown += [repr(outcome(keeper.change, (deed,))), keeper.kept, keeper.world, *[keeper.ground(ask) for ask in asks]]
        shown += [repr(outcome(keeper.asked, (ask,))) for ask in asks]
    return tuple(shown)


def calls_about_all_worlds():
    """Pairs of a function and its arguments."""
    sight, partial = bare(BOOK, FRAME)
    whole = sight_of(BOOK, WORLD)
    sees, gilt, inside = BOOK.atoms(FRAME)[0], ("walk", GILT, "thing"), ("flag", "inside")
    found = [(weaker, (whole,)), (ground, (BOOK, WORLD, ASK)), (ground, (BOOK, WORLD, ("red", *ASK[1:])))]
    for told, ask in ((sight, partial), (whole, ASK), (whole, (*ASK[:3], (None,), (), None)), (sight, (*partial[:5], -1))):
        word, yes, papers = outcome(sure, (BOOK, told, ask)) if ask[5] != -1 else ("sure", True, ())
        found.append((sure, (BOOK, told, ask)))
        if ask[5] != -1:
            found += [(judge_sure, (BOOK, told, ask, truth, papers)) for truth in (True, False)]
        for literals in (((sees, False), (gilt, True)), [(sees, True), (gilt, False), (inside, True)], ((("atmost", "now", "0", -1), True),), ((inside, True),) * 11):
            found.append((realize, (BOOK, told, ask, literals)))
            if ask[5] != -1 and len(literals) < 11:
                paper = realize(BOOK, told, ask, literals)[1]
                found += [(judge_never, (BOOK, told, ask, literals, other)) for other in (paper, ("tag", 0), ("none", 1, ()))]
    for claim in (("never",), ("only", ("or", inside, ("walk", "gilt", "thing"))), ("if", gilt), ("dead", "p2"), ("dead", "p3"), ("brings", "log"), ("only", ("flag", "none"))):
        for books in ((BOOK,), [BOOK], (BOOK, BOOK), (BOOK, OTHER)):
            found += [(claimed, (books, FRAME, claim)), (claimed, (books, ("guest", "edit", "paper"), claim))]
            papers = outcome(claimed, (books, FRAME, claim))
            if papers[0] in ("holds", "broken"):
                found.append((judge_claim, (books, FRAME, claim, papers[1])))
    found += [(claimed, ((BOOK, BOOK), FRAME, ("within",))), (least_book, (BOOK, ())), (least_book, (BOOK, [(FRAME, gilt)])), (least_book, (BOOK, ((FRAME, sees),)))]
    asks = (ASK, ("ana", "edit", "memo", (True,), (), 4), ("red", *ASK[1:]))
    found.append((kept, (BOOK, WORLD, asks, (("link", "red", "in", "red"), ("cut", "ana", "in", "red"), ("drop", "bob"), ["drop"], ("drop", "memo")))))
    return found


def watched(book, world, askers, asks, deeds):
    """What a watch shows while its world changes."""
    watch = Watch(book, world)
    shown = [repr(outcome(watch.follow, (asker,))) for asker in askers] + [repr(outcome(watch.note, (ask,))) for ask in asks]
    for deed in deeds:
        shown += [repr(outcome(watch.tried, (deeds[:2],))), repr(outcome(watch.change, (deed,))), watch.world, watch.asks, watch.askers]
        shown += [repr(outcome(watch.ends, (asker, name))) for asker in askers for name in ("sees", "none")]
    return tuple(shown)


def sought(book, world, queries):
    """What a store returns for queries."""
    store = Store(book, world)
    return tuple((store.sought(kind, query), store.many(kind, query)) for kind, query in queries)


def housed(book, world, now, rows, asks):
    """What a house shows while rows are entered, and after a trial."""
    house = House(book, world, now)
    shown = []
    for row in rows:
        with house.trial():
            shown += [repr(outcome(house.enter, row)), house.state, house.rows]
        shown += [repr(outcome(tried, (house, (row, row)))), repr(outcome(house.do, row[1:])), repr(outcome(house.enter, row)), house.state, house.rows, house.now]
        shown += [repr(outcome(call, (ask,))) for ask in asks for call in (house.may, house.turns)]
        shown.append(repr(outcome(house.hung, ("l1", "view", (False,), ()))))
    return tuple(shown)


def calls_about_changes():
    """Pairs of a function and its arguments."""
    found = []
    gilt, inside = ("walk", "gilt", "thing"), ("flag", "inside")
    for cond in (gilt, ("or", gilt, inside), ("flag", "none"), ("tag", "asker", "gold")):
        found += [(narrowed, (BOOK, FRAME, policy, cond, name)) for policy, name in (("p1", "thin"), ("p1", "sees"), ("p2", "thin"))]
    for claim in (("keeps", ("in", "keeps")), ("safe", ("in",)), ("safe", ("wears",)), ("safe", ("none",))):
        found.append((link_claim, (BOOK, FRAME, claim)))
        papers = outcome(link_claim, (BOOK, FRAME, claim))
        if papers[0] in ("holds", "broken"):
            found.append((judge_link_claim, (BOOK, FRAME, claim, papers[1])))
    deeds = (("link", "red", "in", "red"), ("cut", "ana", "in", "red"), ("drop", "bob"), ("node", "bob", "clerk", (), ()), ("link", "bob", "keeps", "memo"), ("drop", "memo"))
    found.append((watched, (BOOK, WORLD, ("ana", "bob", "red"), (ASK, ("bob", *ASK[1:]), (*ASK[:5], -1)), deeds)))
    for flags in ((False,), (True,), (0,)):
        for asker in ("ana", "red"):
            found += [(what, (BOOK, WORLD, asker, "view", "paper", flags, (), 3)), (who, (BOOK, WORLD, "memo" if asker == "ana" else asker, "view", "clerk", flags, (), 3))]
    found.append((sought, (BOOK, WORLD, (("clerk", ("all",)), ("team", ("tag", "gold")), ("paper", ("not", ("names", ("leaf", "memo")))), ("guest", ("none",))))))
    rows = (("ana", ("node", "bob", "clerk", (), ())), ("ana", ("lend", "l1", "ana", "bob", ("view",), None, 9, 0)), ("ana", ("tick", 4)), ("red", ("tick", 4)), ("bob", ("back", "l1")),
            ("ana", ("enact", ("let", "p3", 9, ("clerk",), ("view",), ("paper",), ("always",), ()))), ("ana", ("repeal", "p1")), ("bob", ("drop", "ana")))
    found.append((housed, (BOOK, WORLD, 2, rows, (ASK[:5], ("bob", *ASK[1:5]), ("red", *ASK[1:5])))))
    for part in (rows, rows[:3], list(rows[:3]), ()):
        found += [(audit, (BOOK, WORLD, 2, part)), (replayed, (BOOK, WORLD, 2, part))]
    return found


def outcome(function, arguments):
    """What a call returns, or the error that it raises with its attributes."""
    try:
        return function(*arguments)
    except LeaveError as error:
        return (error.__class__, vars(error))


class SteadyTest(unittest.TestCase):
    def test_in_whatever_order(self):
        rows = calls()
        first = [outcome(*row) for row in rows]
        self.assertEqual([outcome(*row) for row in rows], first)
        order = list(range(len(rows)))
        for seed in range(3):
            random.Random(seed).shuffle(order)
            for at in order:
                self.assertEqual(outcome(*rows[at]), first[at])

    def test_arguments_stay(self):
        own = [BOOK, OTHER, LANGUAGE, OTHER_LANGUAGE]
        for function, arguments in calls():
            parts = [part for part in arguments if part not in own and not (isinstance(part, (tuple, list)) and part and part[0] in own)]
            before = [copy.deepcopy(part) for part in parts]
            outcome(function, arguments)
            self.assertEqual(parts, before)

    def test_books_stay(self):
        before = [copy.deepcopy(vars(book)) for book in (BOOK, OTHER)]
        for row in calls():
            outcome(*row)
        for book, attributes in zip((BOOK, OTHER), before):
            for name in ("tree", "flattened", "plan", "frames"):
                self.assertEqual(getattr(book, name), attributes[name])

    def test_what_objects_show_stays(self):
        def shown():
            return [(places.last, places.size) for places in (PLACES, OTHER_PLACES)] + [LANGUAGE.least, OTHER_LANGUAGE.least]
        before = copy.deepcopy(shown())
        for row in calls():
            outcome(*row)
        self.assertEqual(shown(), before)

    def test_two_books_do_not_share(self):
        self.assertEqual(letters(OTHER, ("clerk", ())), (("in", "paper", ()), ("in", "team", ()), ("in", "team", ("gold",))))
        self.assertEqual(len(letters(BOOK, ("clerk", ()))), 4)
        self.assertEqual(len(letters(OTHER, ("clerk", ()))), 3)

    def test_truths(self):
        for function, arguments in calls():
            if function.__name__.startswith(("is_", "judge_")):
                self.assertIn(outcome(function, arguments), (True, False))
                self.assertIs(type(outcome(function, arguments)), bool)

    def test_tuples(self):
        def is_plain(thing):
            return isinstance(thing, (str, int)) or thing is None or isinstance(thing, tuple) and all(map(is_plain, thing))
        for function, arguments in calls():
            found = outcome(function, arguments)
            if not (isinstance(found, tuple) and found and isinstance(found[0], type)):
                self.assertTrue(is_plain(found), (function, arguments))


if __name__ == "__main__":
    unittest.main()
