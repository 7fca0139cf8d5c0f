"""Writing the text of a tree [10]."""

import random
import unittest

from leaveledger.errors import LeaveError
from leaveledger.reading import read
from leaveledger.tokens import tokens_of
from leaveledger.trees import is_tree
from leaveledger.writing import write, write_cond, write_walk
from tests import chance as by_chance
from tests.samples import CONDS, EXAMPLE, LINES, WALKS, policy


def parentheses(tokens):
    """The pairs of places at which a parenthesis begins and ends."""
    begun = []
    for at, token in enumerate(tokens):
        if token == "(":
            begun.append(at)
        elif token == ")":
            yield begun.pop(), at


def read_again(text):
    """The tree of a text, None if it has none."""
    try:
        return read(text)
    except LeaveError:
        return None


class WritingTest(unittest.TestCase):
    def check_tree(self, tree):
        self.assertTrue(is_tree(tree))
        text = write(tree)
        self.assertEqual(read(text), tree)
        self.check_spaces(text)
        tokens = tokens_of(text)
        for begin, end in parentheses(tokens):
            without = tokens[:begin] + tokens[begin + 1:end] + tokens[end + 1:]
            self.assertNotEqual(read_again(" ".join(without)), tree, text)

    def check_spaces(self, text):
        self.assertTrue(text == "" or text.endswith(";\n"))
        for row in text.split("\n")[:-1]:
            self.assertEqual(" ".join(tokens_of(row)), row)
            self.assertEqual(tokens_of(row).count(";"), 1)

    def test_each_line(self):
        for line, text in LINES:
            self.assertEqual(write((line,)), text + "\n")
            self.check_tree((line,))
        lines = tuple(line for line, _ in LINES)
        self.assertEqual(write(lines), "".join([text + "\n" for _, text in LINES]))
        self.check_tree(lines)

    def test_empty(self):
        self.assertEqual(write(()), "")

    def test_walks(self):
        for walk, text in WALKS:
            self.assertEqual(write_walk(walk), text)
            self.assertEqual(write((("walk", "x", walk),)), f"walk x = {text} ;\n")

    def test_tables(self):
        for line, text in LINES:
            if line[0] == "walk":
                self.assertEqual(f"walk {line[1]} = {write_walk(line[2])} ;", text)

    def test_conds(self):
        for cond, text in CONDS:
            self.assertEqual(write_cond(cond), text)
            self.assertEqual(write((("when", "x", cond),)), f"when x = {text} ;\n")

    def test_example(self):
        text = write(read(EXAMPLE))
        self.assertEqual(text.split("\n")[11], "walk sees = in * keeps ;")
        self.assertEqual(text.split("\n")[12], "walk gilt = in * in [ gold ] in * keeps ;")
        self.assertEqual(tokens_of(text), tokens_of(EXAMPLE))
        self.assertEqual(write(read(text)), text)

    def test_no_needless_parts(self):
        self.assertEqual(write((policy(),)), "let p rank 1 clerk may view on paper when always ;\n")
        self.assertNotIn("[", write_walk(("step", "in", ())))
        self.assertNotIn("[", write_walk(("star", ("step", "any", ()))))
        self.assertEqual(write_cond(("atmost", "now", "0", 0)), "now <= 0")

    def test_trees_by_chance(self):
        chance = random.Random(11)
        for deep in (1, 2, 3, 4, 5, 6):
            for _ in range(60):
                self.check_tree(by_chance.tree(chance, deep))
        for _ in range(10):
            self.check_tree((("walk", "x", by_chance.expression(chance, 12)), ("when", "x", by_chance.cond(chance, 12))))

    def test_as_behind_the_equals_sign(self):
        chance = random.Random(13)
        for _ in range(100):
            walk, cond = by_chance.expression(chance, 5), by_chance.cond(chance, 5)
            self.assertEqual(write((("walk", "x", walk),)), f"walk x = {write_walk(walk)} ;\n")
            self.assertEqual(write((("when", "x", cond),)), f"when x = {write_cond(cond)} ;\n")


if __name__ == "__main__":
    unittest.main()
