"""Reading a text [8], [9]."""

import random
import unittest

from leaveledger.errors import BadText, BadTree
from leaveledger.reading import read
from leaveledger.tokens import tokens_of
from leaveledger.trees import is_tree
from tests.grammar import wrong_at
from tests.samples import A, B, C, CONDS, EXAMPLE, F, G, H, LINES, STEP, WALKS

SIGNS = list("()[]{}*+?|@-=;.") + ["<=", "<", "0", "1", "4", "5", "39", "40", "99", "100", "9999", "10000", "00", "01"]
WORDS = (
    "asker group thing badge tag number flag asked action duty tie never walk when role gate let bar on from to by is "
    "may rank due and or not always now ask any table final node rule x gold abcdefghi zz zz0 A 9x \t \u00e4"
).split(" ")
ALPHABET = SIGNS + WORDS
POLICY = "let p rank 1 k may a on t when "


def outcome(text):
    """What reading a text gives: the place of BadText, `tree` for BadTree, or the tree."""
    try:
        return ("read", read(text))
    except BadText as error:
        return ("text", error.at)
    except BadTree:
        return ("tree", None)


class ReadingTest(unittest.TestCase):
    def bad_text(self, text, at):
        self.assertEqual(outcome(text), ("text", at), text)

    def bad_tree(self, *texts):
        for text in texts:
            self.assertEqual(outcome(text), ("tree", None), text)

    def check_against_grammar(self, tokens):
        text = " ".join(tokens)
        kind, value = outcome(text)
        wrong = wrong_at(tokens_of(text))
        if wrong is None:
            self.assertNotEqual(kind, "text", text)
        else:
            self.assertEqual((kind, value), ("text", wrong), text)

    def test_each_line(self):
        for line, text in LINES:
            self.assertEqual(read(text), (line,))
        texts = [text for _, text in LINES]
        self.assertEqual(read("\n".join(texts)), tuple(line for line, _ in LINES))
        self.assertEqual(read("".join(texts)), tuple(line for line, _ in LINES))

    def test_empty(self):
        for text in ("", " ", "\n", " \n \n"):
            self.assertEqual(read(text), ())

    def test_example(self):
        tree = read(EXAMPLE)
        self.assertEqual(len(tree), 15)
        self.assertEqual(tree[11], ("walk", "sees", ("then", ("star", STEP), ("step", "keeps", ()))))
        self.assertEqual(tree[13], ("let", "p1", 5, ("clerk",), ("view",), ("paper",), ("walk", "sees", "thing"), ("log",)))
        self.assertTrue(is_tree(tree))

    def test_blanks_do_not_matter(self):
        self.assertEqual(read("tie in from a to b;never in[gold]to[-gold old];walk w=(in*|@v){3}keeps;"), (
            ("tie", "in", ("a",), ("b",)),
            ("never", "in", (("gold", True),), (("gold", False), ("old", True))),
            ("walk", "w", ("then", ("upto", ("or", ("star", STEP), ("named", "v")), 3), ("step", "keeps", ()))),
        ))
        self.assertEqual(read("when\n\nc\n=\nask.a<=now+3;"), (("when", "c", ("atmost", "ask.a", "now", 3)),))

    def test_walks(self):
        for walk, text in WALKS:
            self.assertEqual(read(f"walk x = {text} ;"), (("walk", "x", walk),))
            self.assertEqual(read(f"walk x = ( {text} ) ;"), (("walk", "x", walk),))

    def test_conds(self):
        for cond, text in CONDS:
            self.assertEqual(read(f"when x = {text} ;"), (("when", "x", cond),))
            self.assertEqual(read(f"when x = ( {text} ) ;"), (("when", "x", cond),))
            self.assertEqual(read(f"{POLICY} {text} ;")[0][6], cond)

    def test_how_walks_bind(self):
        for text, walk in (
            ("a b c", ("then", ("then", A, B), C)),
            ("a | b | c", ("or", ("or", A, B), C)),
            ("a | b c*", ("or", A, ("then", B, ("star", C)))),
            ("(a | b) c", ("then", ("or", A, B), C)),
            ("a b | c", ("or", ("then", A, B), C)),
            ("a*+?{2}", ("upto", ("maybe", ("plus", ("star", A))), 2)),
            ("(a b)*", ("star", ("then", A, B))),
            ("a (b c)", ("then", A, ("then", B, C))),
        ):
            self.assertEqual(read(f"walk x = {text} ;")[0][2], walk)

    def test_how_conds_bind(self):
        f, g, h = "ask is f", "ask is g", "ask is h"
        for text, cond in (
            (f"{f} or {g} or {h}", ("or", ("or", F, G), H)),
            (f"{f} and {g} and {h}", ("and", ("and", F, G), H)),
            (f"{f} or {g} and {h}", ("or", F, ("and", G, H))),
            (f"{f} and {g} or {h}", ("or", ("and", F, G), H)),
            (f"not {f} and {g}", ("and", ("not", F), G)),
            (f"not not {f} or {g}", ("or", ("not", ("not", F)), G)),
            (f"not ({f} or {g})", ("not", ("or", F, G))),
            (f"{f} and ({g} or {h})", ("and", F, ("or", G, H))),
        ):
            self.assertEqual(read(f"when x = {text};")[0][2], cond)

    def test_needless_parentheses(self):
        for deep in (1, 2, 12, 13, 49, 50):
            left, right = "(" * deep, ")" * deep
            self.assertEqual(read(f"walk x = {left} a | b {right} c ;"), (("walk", "x", ("then", ("or", A, B), C)),))
            self.assertEqual(read(f"when x = {left} ask is f {right} ;"), (("when", "x", F),))
            self.assertEqual(read(f"{POLICY} not {left} ask is f or ask is g {right} ;")[0][6], ("not", ("or", F, G)))
            self.bad_text(f"walk x = {left} a | b {right[1:]} ;", 3 + 2 * deep + 2)
            self.bad_text(f"walk x = {left} a | b {right} ) ;", 3 + 2 * deep + 3)
            self.bad_text(f"when x = {left} always {right} ) ;", 3 + 2 * deep + 1)

    def test_parts_left_out(self):
        self.assertEqual(read(POLICY + "always;")[0], ("let", "p", 1, ("k",), ("a",), ("t",), ("always",), ()))
        self.assertEqual(read(POLICY + "always due d e;")[0][7], ("d", "e"))
        self.assertEqual(read("let p rank 1 k may @a a @b on t when always;")[0][4], ("@a", "a", "@b"))
        self.assertEqual(read("never in [] to [];"), (("never", "in", (), ()),))
        self.assertEqual(read("walk x = table final 0;"), (("walk", "x", ("table", (), 0)),))
        self.assertEqual(read("walk x = table 1 in team [] 2 final -;")[0][2], ("table", ((1, ("in", "team", ()), 2),), None))
        for text, gap in (("", 0), ("+ 0", 0), ("- 0", 0), ("+ 9999", 9999), ("- 9999", -9999), ("-3", -3)):
            self.assertEqual(read(f"when x = now <= 0 {text};")[0][2], ("atmost", "now", "0", gap))
        self.bad_text("bar p rank 1 k may a on t when always due d;", 11)
        self.bad_text("walk x = in[];", 5)
        self.bad_text("let p rank 1 may a on t when always;", 4)
        self.bad_text("tag gold on ;", 3)

    def test_numbers_beyond_their_bounds(self):
        self.assertEqual(read(POLICY.replace("1", "99") + "always;")[0][2], 99)
        for rank in ("100", "00", "01", "9999", "10000", "1" * 5000, "1a"):
            self.bad_text(POLICY.replace("1", rank) + "always;", 3)
        for times in ("0", "5", "01", "10", "00", "1" * 5000):
            self.bad_text(f"walk x = a{{{times}}};", 5)
        for place in ("40", "00", "01", "100", "039", "0" * 5000):
            self.bad_text(f"walk x = table {place} in team [] 0 final 0;", 4)
            self.bad_text(f"walk x = table 0 in team [] {place} final 0;", 9)
            self.bad_text(f"walk x = table 0 in team [] 0 final {place};", 11)
        for number in ("10000", "00", "01", "99999", "9" * 5000, "09999"):
            self.bad_text(f"when x = now <= 0 + {number};", 7)
            self.bad_text(f"when x = now <= 0 - {number};", 7)
        self.bad_text("when x = now <= 1;", 5)
        self.bad_text("when x = 1 <= now;", 3)
        self.bad_text("when x = 00 <= now;", 3)

    def test_wrong_tokens(self):
        for token in ("zz", "zz0", "zzap", "abcdefghi", "A", "aB", "9a", "00", "\t", "\u00e4", "asker", "any", "<", "#"):
            self.bad_text(f"asker {token} ;", 1)
            self.bad_text(f"asker a {token} ;", 2)
            self.bad_text(f"tag {token} on a ;", 1)
            self.bad_text(f"when x = ask is {token} ;", 5)
            if token != "any":
                self.bad_text(f"walk x = {token} ;", 3)
            if token != "asker":
                self.bad_text(token, 0)
        self.bad_text("a", 0)
        self.bad_text("node", 0)
        self.bad_text(";", 0)
        self.bad_text("asker a; ;", 3)
        self.bad_text("gate any by a on b;", 1)
        self.bad_text("gate node by a on zz0;", 5)

    def test_texts_that_lack_their_end(self):
        for _, text in LINES:
            tokens = tokens_of(text)
            for many in range(1, len(tokens)):
                self.bad_text(" ".join(tokens[:many]), many)
        tokens = tokens_of(EXAMPLE)
        for many in range(1, len(tokens), 3):
            if tokens[many - 1] != ";":
                self.bad_text(" ".join(tokens[:many]), many)

    def test_bad_tree(self):
        names = "a b c d e f g h i"
        self.assertEqual(len(read(f"asker {names[:-2]};")[0][1]), 8)
        self.bad_tree(f"asker {names};", "asker a b a;", "tag x on a a;", f"role r = {names};", f"role r = {names[:1]} a;")
        self.bad_tree("never in [a b c d] to [];", "never in [] to [a -a];", "walk x = in[a a];", "walk x = in[a b c d];")
        self.bad_tree(POLICY + "always due a b c d e;", POLICY + "always due a a;")
        self.bad_tree("let p rank 1 k may a a on t when always;", "let p rank 1 k may @a @a on t when always;")
        self.bad_tree("let p rank 1 k k may a on t when always;", f"let p rank 1 k may a on {names} when always;")
        self.bad_tree("walk x = table 0 in team [b a] 0 final 0;", "walk x = table 0 in team [a b c d] 0 final 0;")
        self.bad_tree("walk x = table 0 in team [a a] 0 final 0;")
        self.bad_tree("asker a;" * 61)
        self.assertEqual(len(read("asker a;" * 60)), 60)
        self.assertEqual(len(read("walk x = table" + " |".join([" 0 in t [] 0"] * 200) + " final 0;")[0][2][1]), 200)
        self.bad_tree("walk x = table" + " |".join([" 0 in t [] 0"] * 201) + " final 0;")

    def test_too_deep(self):
        self.assertEqual(len(read("walk x = " + "a " * 12 + ";")), 1)
        self.assertEqual(len(read("walk x = a" + " | a" * 11 + ";")), 1)
        self.assertEqual(len(read("walk x = a" + "*" * 11 + ";")), 1)
        self.assertEqual(len(read("when x = " + "not " * 11 + "always;")), 1)
        self.assertEqual(len(read("when x = always" + " and always" * 11 + ";")), 1)
        self.bad_tree("walk x = " + "a " * 13 + ";", "walk x = a" + " | a" * 12 + ";", "walk x = a" + "*" * 12 + ";")
        self.bad_tree("when x = " + "not " * 12 + "always;", "when x = always" + " and always" * 12 + ";")
        self.bad_tree("when x = always" + " or always" * 12 + ";", "walk x = " + "a " * 20000 + ";")
        self.bad_tree("walk x = a" + "*" * 50 + ";", "when x = " + "not " * 50 + "always;")
        self.bad_tree("walk x = " + "(" * 50 + "a" + " b)" * 50 + ";", "when x = " + "(" * 50 + "now<=0" + " or now<=0)" * 50 + ";")

    def test_bad_text_in_front_of_bad_tree(self):
        self.bad_text("asker a a; group ;", 5)
        self.bad_text("asker a a", 3)
        self.bad_text("walk x = " + "a " * 13, 16)
        self.bad_text("asker a;" * 61 + "x", 183)
        self.bad_tree("asker a a; group b;")

    def test_against_the_grammar_token_by_token(self):
        for _, text in LINES:
            tokens = list(tokens_of(text))
            self.assertIsNone(wrong_at(tokens))
            for at in range(len(tokens)):
                self.check_against_grammar(tokens[:at] + tokens[at + 1:])
                self.check_against_grammar(tokens[:at] + [tokens[at]] + tokens[at:])
                self.check_against_grammar(tokens[:at] + tokens[at:at + 2][::-1] + tokens[at + 2:])
                for token in ALPHABET:
                    self.check_against_grammar(tokens[:at] + [token] + tokens[at:])
                    self.check_against_grammar(tokens[:at] + [token] + tokens[at + 1:])

    def test_against_the_grammar_in_walks_and_conds(self):
        chance = random.Random(5)
        texts = [f"walk x = {text} ;" for _, text in WALKS] + [f"when x = {text} ;" for _, text in CONDS]
        texts += [f"{POLICY} {text} due d ; bar {POLICY[4:]} {text} ;" for _, text in CONDS]
        for text in texts:
            tokens = list(tokens_of(text))
            for at in range(len(tokens)):
                self.check_against_grammar(tokens[:at] + tokens[at + 1:])
                self.check_against_grammar(tokens[:at] + tokens[at:at + 2][::-1] + tokens[at + 2:])
                for token in chance.sample(ALPHABET, 6):
                    self.check_against_grammar(tokens[:at] + [token] + tokens[at:])
                    self.check_against_grammar(tokens[:at] + [token] + tokens[at + 1:])

    def test_against_the_grammar_by_growing(self):
        chance = random.Random(7)
        for _ in range(150):
            tokens = []
            for _ in range(chance.randint(1, 25)):
                fitting = [token for token in ALPHABET if wrong_at(tokens + [token]) in (None, len(tokens) + 1)]
                tokens.append(chance.choice(fitting))
            self.check_against_grammar(tokens)
            self.check_against_grammar(tokens + [chance.choice(ALPHABET)])


if __name__ == "__main__":
    unittest.main()
