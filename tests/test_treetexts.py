import copy
import unittest

from calm.trees import read_program
from calm.treetexts import show_program
from tests.samples import some_tree, source_of, strewn, tight
from tests.test_trees import WHOLE, WHOLE_TREE

TRUE = ("and", ())


def one_hand(rows):
    return ([], [], [("h", [], rows)])


class Shown(unittest.TestCase):
    def test_whole(self):
        told = WHOLE.replace("lock l\nbox y2 -5 -1 -3", "box y2 -5 -1 -3\nlock l")
        self.assertEqual(show_program(WHOLE_TREE), told)

    def test_least(self):
        self.assertEqual(show_program(one_hand([])), "hand h\nend")

    def test_an_else_only_with_rows(self):
        self.assertEqual(show_program(one_hand([("if", TRUE, [], [])])), "hand h\nif true\nend\nend")
        told = "hand h\nif true\nelse\ntake l\nend\nend"
        self.assertEqual(show_program(one_hand([("if", TRUE, [], [("take", "l")])])), told)

    def test_ways(self):
        told = "hand h\neither\nor\ngive l\nor\nend\nend"
        self.assertEqual(show_program(one_hand([("either", ([], [("give", "l")], []))])), told)

    def test_great_ends(self):
        tree = ([("x", -10 ** 30, 10 ** 30, 10 ** 30)], [], [("h", [("m", -10 ** 30, 0, -10 ** 30)], [])])
        great = "1" + "0" * 30
        told = f"box x -{great} {great} {great}\nhand h\nown m -{great} 0 -{great}\nend"
        self.assertEqual(show_program(tree), told)
        self.assertEqual(read_program(told), tree)

    def test_the_tree_stays_as_it_was(self):
        tree = copy.deepcopy(WHOLE_TREE)
        show_program(tree)
        self.assertEqual(tree, WHOLE_TREE)


class ReadBack(unittest.TestCase):
    def test_many_trees(self):
        rng = source_of(10)
        words = set()
        for _ in range(150):
            tree = some_tree(rng)
            text = show_program(tree)
            words.update(row.split(" ")[0] for row in text.split("\n"))
            self.assertEqual(read_program(text), tree)
        self.assertEqual(len(words), 17)

    def test_with_blanks_strewn_and_left_out(self):
        rng = source_of(11)
        for _ in range(80):
            tree = some_tree(rng)
            rows = show_program(tree).split("\n")
            self.assertEqual(read_program("\n".join(tight(row) for row in rows)), tree)
            spread = []
            for row in rows:
                spread.extend([" " * rng.randrange(3)] * rng.randrange(2) + [strewn(row, rng)])
            self.assertEqual(read_program("\n".join(spread + [""])), tree)
