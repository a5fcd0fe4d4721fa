import unittest
from fractions import Fraction

from calm.checker import at_least, at_most
from calm.sums import by, plus
from calm.tableau import (
    box_ends, copied, equal_pairs, is_beyond, keeps_to, lay_bound, point_of, settle, tableau_of,
)
from tests.samples import form_sum, source_of

ROWS = [("x", -3, 4), ("y", 2, 9), ("@h", 0, 1)]
BOXES = ["x", "y", "@h"]


def most(number, *parts):
    return ("most", (number, parts))


def laid(rows, atoms):
    tableau = tableau_of(rows)
    for atom in atoms:
        clash = lay_bound(tableau, atom)
        if clash is not None:
            return tableau, clash
    return tableau, settle(tableau)


def exact(one, point):
    return one[0] + sum(times * Fraction(point[1][box], point[0]) for box, times in one[1])


class Case(unittest.TestCase):
    def shows(self, clash, atoms):
        whole = (0, ())
        for atom, times in clash:
            self.assertIn(atom, atoms)
            self.assertGreater(times, 0)
            whole = plus(whole, by(atom[1], times))
        self.assertEqual(whole[1], ())
        self.assertGreater(whole[0], 0)


class Points(Case):
    def test_by_hand(self):
        tableau, clash = laid(ROWS, [])
        self.assertIsNone(clash)
        self.assertEqual(point_of(tableau, BOXES), (1, {"x": 0, "y": 2, "@h": 0}))
        self.assertEqual(box_ends(tableau, BOXES), {"x": (-3, 4), "y": (2, 9), "@h": (0, 1)})
        tableau, clash = laid(ROWS, [most(5, ("x", -2)), most(-5, ("x", 2))])
        self.assertIsNone(clash)
        self.assertEqual(point_of(tableau, BOXES), (2, {"x": 5, "y": 4, "@h": 0}))
        self.assertEqual(equal_pairs(tableau), [(most(-5, ("x", 2)), most(5, ("x", -2)))])
        self.assertEqual(laid(ROWS, [most(1)])[1], [(most(1), 1)])
        self.assertEqual(laid(ROWS, [at_most("x", -4)])[1], [(at_least("x", -3), 1), (at_most("x", -4), 1)])

    def test_a_box_ends_where_atoms_say(self):
        tableau, clash = laid(ROWS, [at_most("x", 3), at_least("x", 1), at_most("x", 7), at_least("x", 0)])
        self.assertEqual(box_ends(tableau, ["x"]), {"x": (1, 3)})
        self.assertEqual(point_of(tableau, ["x"]), (1, {"x": 1}))

    def test_seeded(self):
        rng = source_of(31)
        clashes = points = broken = 0
        for _ in range(1500):
            rows = [(box, low, low + rng.randrange(12)) for box, low in zip("uvwxyz", [rng.randrange(-9, 9)] * 6)]
            rows = rows[:rng.randrange(1, 7)]
            boxes = [row[0] for row in rows]
            atoms = [("most", form_sum(rng, boxes, rng.choice((1, 3, 9)))) for _ in range(rng.randrange(10))]
            tableau, clash = laid(rows, atoms)
            known = atoms + [at_least(box, low) for box, low, high in rows]
            known += [at_most(box, high) for box, low, high in rows]
            if clash is not None:
                self.shows(clash, known)
                clashes += 1
                continue
            point = point_of(tableau, boxes)
            self.assertTrue(all(exact(atom[1], point) <= 0 for atom in known))
            points += 1
            broken += point[0] > 1
            if point[0] == 1:
                self.assertTrue(keeps_to(tableau, point[1]))
            book = {box: rng.randrange(low - 1, high + 2) for box, low, high in rows}
            self.assertEqual(keeps_to(tableau, book), all(exact(atom[1], (1, book)) <= 0 for atom in known))
        self.assertGreater(min(clashes, points), 300)
        self.assertGreater(broken, 40)

    def test_laid_one_by_one(self):
        # Settled between any two atoms, and copies that go other ways: the first one doesn't change.
        rng = source_of(32)
        for _ in range(200):
            rows = [("x", -5, 5), ("y", -5, 5), ("z", 0, 7)]
            tableau = tableau_of(rows)
            known = [at_least("x", -5), at_most("x", 5), at_least("y", -5), at_most("y", 5), at_least("z", 0),
                     at_most("z", 7)]
            for _ in range(8):
                before = point_of(tableau, ["x", "y", "z"])
                atom = ("most", form_sum(rng, ["x", "y", "z"], 4))
                other = copied(tableau)
                clash = lay_bound(other, atom) or settle(other)
                self.assertEqual(point_of(tableau, ["x", "y", "z"]), before)
                if clash is not None:
                    self.shows(clash, known + [atom])
                    continue
                known.append(atom)
                tableau = other
                self.assertTrue(all(exact(one[1], point_of(other, ["x", "y", "z"])) <= 0 for one in known))


class Beyond(Case):
    def test_ends_of_boxes_and_sums(self):
        tableau, clash = laid(ROWS, [most(-5, ("x", 1), ("y", 1)), most(3, ("x", -1), ("y", -1))])
        for atom, told in (
            (most(1), True), (most(0), False), (at_most("x", -4), True), (at_most("x", -3), False),
            (at_least("x", 5), True), (at_least("x", 4), False), (most(6, ("x", -1), ("y", -1)), True),
            (most(5, ("x", -1), ("y", -1)), False), (most(-2, ("x", 1), ("y", 1)), True),
            (most(-3, ("x", 1), ("y", 1)), False), (most(99, ("x", 2), ("y", 2)), False),
        ):
            self.assertIs(is_beyond(tableau, atom), told, atom)
        # A sum of which one end alone is known.
        tableau, clash = laid(ROWS, [most(-5, ("x", 1), ("y", 1))])
        self.assertIs(is_beyond(tableau, most(0, ("x", 1), ("y", 1))), False)
        self.assertIs(is_beyond(tableau, most(6, ("x", -1), ("y", -1))), True)
        tableau, clash = laid(ROWS, [most(3, ("x", -1), ("y", -1))])
        self.assertIs(is_beyond(tableau, most(9, ("x", -1), ("y", -1))), False)
        self.assertIs(is_beyond(tableau, most(-2, ("x", 1), ("y", 1))), True)


if __name__ == "__main__":
    unittest.main()
