"""The interface: names, arguments, and the files in which things are defined."""

import importlib
import inspect
import unittest

from leaveledger.books import Book
from leaveledger.deciding import Decider
from leaveledger.house import House
from leaveledger.keeper import Keeper
from leaveledger.languages import Language
from leaveledger.places import Places
from leaveledger.reading import read
from leaveledger.watch import Watch
from tests.samples import EXAMPLE

FUNCTIONS = {
    "trees.is_tree": ["tree"],
    "tokens.tokens_of": ["text"],
    "reading.read": ["text"],
    "writing.write": ["tree"],
    "writing.write_walk": ["walk"],
    "writing.write_cond": ["cond"],
    "faults.faults": ["tree"],
    "flatten.flat": ["tree"],
    "letters.letters": ["book", "standing"],
    "letters.is_word": ["book", "kind", "end", "word"],
    "worlds.world_of": ["book", "nodes", "links", "numbers"],
    "worlds.is_world": ["book", "world"],
    "worlds.row_of": ["world", "node", "tie"],
    "walked.walked": ["book", "world", "walk", "node"],
    "answers.stands": ["book", "world", "ask", "cond"],
    "answers.answer": ["book", "world", "ask"],
    "deeds.done": ["book", "world", "deed"],
    "machines.machine": ["book", "kind", "walk", "end"],
    "machines.takes": ["machine", "word"],
    "parting.path_world": ["book", "kind", "word"],
    "parting.parting": ["book", "kind", "walk", "other", "end"],
    "parting.machine_parting": ["machine", "other"],
    "within.within": ["book", "kind", "walk", "walks", "end"],
    "within.judge_within": ["book", "kind", "walk", "walks", "end", "table"],
    "combine.combined": ["book", "kind", "combination", "end"],
    "combine.table_of": ["machine"],
    "counting.count_words": ["machine", "n"],
    "counting.word_at": ["machine", "n", "at"],
    "counting.place_of": ["machine", "word"],
    "counting.extent": ["machine"],
    "counting.always_passed": ["machine"],
    "counting.words_of": ["machine", "n"],
    "reach.reached": ["book", "world", "walk", "node"],
    "reach.steps_to": ["book", "world", "walk", "node", "most"],
    "shortest.shortest": ["book", "world", "walk", "node", "end"],
    "back.comers": ["book", "world", "walk", "end"],
    "shut.shut": ["book", "world", "walk", "node", "end"],
    "shut.judge_shut": ["book", "world", "walk", "node", "end", "paper"],
    "maps.judge_map": ["book", "world", "second", "pairs"],
    "peers.peers": ["book", "world", "second", "first"],
    "peers.judge_peers": ["book", "world", "second", "first", "table"],
    "bounds.settle": ["bounds"],
    "bounds.judge_ring": ["bounds", "ring"],
    "follows.opposite": ["bound"],
    "follows.follows": ["bounds", "bound"],
    "follows.tightest": ["bounds", "l", "r"],
    "tables.table": ["book", "frame"],
    "tables.yes_table": ["book", "frame", "atoms"],
    "deciding.decide": ["table", "valuation"],
    "deciding.worths_of": ["table", "n"],
    "reasons.reason": ["table", "valuation"],
    "reasons.judge_reason": ["table", "value", "reason"],
    "sights.is_sight": ["book", "sight"],
    "sights.sight_of": ["book", "world"],
    "sights.bare": ["book", "frame"],
    "sights.judge_completion": ["book", "sight", "ask", "pair"],
    "realizing.realize": ["book", "sight", "ask", "literals"],
    "nevers.judge_never": ["book", "sight", "ask", "literals", "paper"],
    "sure.sure": ["book", "sight", "ask"],
    "sure.judge_sure": ["book", "sight", "ask", "yes", "papers"],
    "grounds.weaker": ["sight"],
    "grounds.ground": ["book", "world", "ask"],
    "claims.claimed": ["books", "frame", "claim"],
    "claimjudge.judge_claim": ["books", "frame", "claim", "papers"],
    "leastbook.least_book": ["book", "needs"],
    "narrowing.narrowed": ["book", "frame", "policy", "cond", "name"],
    "growing.link_claim": ["book", "frame", "claim"],
    "growjudge.judge_link_claim": ["book", "frame", "claim", "papers"],
    "queries.what": ["book", "world", "asker", "action", "kind", "flags", "numbers", "now"],
    "queries.who": ["book", "world", "thing", "action", "kind", "flags", "numbers", "now"],
    "ledger.audit": ["book", "world", "now", "rows"],
    "ledger.replayed": ["book", "world", "now", "rows"],
    "ledger.tried": ["house", "rows"],
}
CLASSES = {
    "books.Book": {"__init__": ["tree"], "atoms": ["frame"], "policies": ["frame"], "written": ["walk"],
                   "written_cond": ["cond"]},
    "places.Places": {"__init__": ["book", "walk"], "__call__": ["at", "letter"]},
    "languages.Language": {"__init__": ["book", "kind", "walk", "end"], "__contains__": ["word"], "__bool__": [],
                           "inside": ["other"]},
    "deciding.Decider": {"__init__": ["table"], "told": ["truth"]},
    "keeper.Keeper": {"__init__": ["book", "world"], "asked": ["ask"], "change": ["deed"], "ground": ["ask"]},
    "watch.Watch": {"__init__": ["book", "world"], "follow": ["asker"], "ends": ["asker", "name"], "note": ["ask"], "change": ["deed"],
                    "tried": ["deeds"]},
    "store.Store": {"__init__": ["book", "world"], "sought": ["kind", "query"], "many": ["kind", "query"]},
    "house.House": {"__init__": ["book", "world", "now"], "may": ["ask"], "do": ["deed"], "turns": ["ask"],
                    "hung": ["name", "action", "flags", "numbers"], "trial": [], "enter": ["by", "deed"]},
}
# Objects of the classes, and the attributes that they have when they are created.
BOOK = Book(read(EXAMPLE))
OBJECTS = [
    (BOOK, {"tree": tuple, "flattened": tuple, "plan": tuple, "frames": tuple}),
    (Places(BOOK, ("named", "sees")), {"last": tuple, "size": int}),
    (Language(BOOK, "clerk", ("named", "sees"), "paper"), {"least": tuple}),
    (Decider((("leaf", 0), ("leaf", 1), (0, 0, 1))), {"wants": int, "value": type(None)}),
    (Decider((("leaf", "all"),)), {"wants": type(None), "value": str}),
    (Keeper(BOOK, ((), (), ())), {"kept": tuple, "world": tuple}),
    (Watch(BOOK, ((), (), ())), {"world": tuple, "asks": tuple, "askers": tuple}),
    (House(BOOK, ((), (), ())), {"state": tuple, "rows": tuple, "now": int}),
]


def found(path):
    module, name = path.split(".")
    return getattr(importlib.import_module(f"leaveledger.{module}"), name)


class InterfaceTest(unittest.TestCase):
    def test_functions(self):
        for path, arguments in FUNCTIONS.items():
            function = found(path)
            self.assertEqual(function.__module__, "leaveledger." + path.split(".")[0])
            self.assertEqual(list(inspect.signature(function).parameters), arguments)

    def test_defaults(self):
        defaults = {}
        for path in FUNCTIONS:
            for name, parameter in inspect.signature(found(path)).parameters.items():
                if parameter.default is not inspect.Parameter.empty:
                    defaults[path, name] = parameter.default
        self.assertEqual(defaults, {("worlds.world_of", "numbers"): (), ("reach.steps_to", "most"): None})
        self.assertEqual(inspect.signature(House).parameters["now"].default, 0)

    def test_passed_by_name(self):
        by_name = [(path, name) for path in FUNCTIONS for name, parameter in inspect.signature(found(path)).parameters.items()
                   if parameter.kind is inspect.Parameter.KEYWORD_ONLY]
        self.assertEqual(by_name, [("reach.steps_to", "most")])

    def test_generators(self):
        generators = [path for path in FUNCTIONS if inspect.isgeneratorfunction(found(path))]
        self.assertEqual(generators, ["counting.words_of"])

    def test_classes(self):
        for path, methods in CLASSES.items():
            made = found(path)
            self.assertEqual(made.__module__, "leaveledger." + path.split(".")[0])
            for name, arguments in methods.items():
                self.assertIn(name, vars(made))
                self.assertEqual(list(inspect.signature(vars(made)[name]).parameters)[1:], arguments)

    def test_attributes(self):
        for thing, attributes in OBJECTS:
            for name, kind in attributes.items():
                self.assertIs(type(getattr(thing, name)), kind, (thing, name))


if __name__ == "__main__":
    unittest.main()
