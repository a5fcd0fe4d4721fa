import itertools
import unittest

from calm.residues import near, solved, strides
from calm.sums import by, plus, value
from tests.samples import form_sum, source_of

BOXES = ["x", "y", "z"]
ENDS = {"x": (-4, 9), "y": (0, 99), "z": (-999, 999)}


def some_equation(rng, number):
    one = form_sum(rng, BOXES, rng.choice((1, 4, 12)))
    if rng.random() < 0.5:
        return (one, rng.randrange(2, 13), ("rest%d" % number,))
    return (one, 0, ("high%d" % number, "low%d" % number))


def fits(equation, book):
    worth = value(equation[0], book)
    return worth == 0 if equation[1] == 0 else worth % equation[1] == 0


class Residues(unittest.TestCase):
    def shows(self, told, equations):
        divisor = told[1]
        self.assertGreaterEqual(divisor, 2)
        by_row = {equation[2]: equation for equation in equations}
        whole = (0, ())
        for row in told[2]:
            equation = by_row[row[:-1]]
            self.assertNotEqual(row[-1], 0)
            self.assertEqual(row[-1] * equation[1] % divisor, 0)
            whole = plus(whole, by(equation[0], row[-1]))
        self.assertNotEqual(whole[0] % divisor, 0)
        self.assertTrue(all(times % divisor == 0 for box, times in whole[1]))

    def test_by_hand(self):
        odd = ((1, (("x", 2),)), 0, ("high", "low"))
        self.assertEqual(solved(BOXES, [odd]), ("rest", 2, [("high", "low", 1)]))
        even = ((0, (("x", 1),)), 2, ("even",))
        self.assertEqual(solved(BOXES, [even, ((1, (("x", 1),)), 2, ("odd",))])[:2], ("rest", 2))
        self.assertEqual(solved(BOXES, [even])[0], "fit")
        self.assertEqual(solved([], [((3, ()), 2, ("one",))])[:2], ("rest", 2))
        self.assertEqual(solved([], [])[0], "fit")

    def test_seeded(self):
        rng = source_of(33)
        clashes = fit = 0
        for _ in range(1500):
            equations = [some_equation(rng, number) for number in range(rng.randrange(1, 6))]
            told = solved(BOXES, equations)
            if told[0] == "rest":
                self.shows(told, equations)
                clashes += 1
            elif self.has_fractions(equations):
                fit += 1
                point = (3, {"x": 7, "y": 40, "z": -1000})
                book = near(told[1], point, ENDS)
                self.assertEqual(list(book), BOXES)
                self.assertTrue(all(fits(equation, book) for equation in equations), equations)
        self.assertGreater(min(clashes, fit), 200)

    # Where sums of 0 gainsay one another by themselves, no rest tells it, and nothing fits.
    def has_fractions(self, equations):
        plain = [equation[0] for equation in equations if equation[1] == 0]
        return len(plain) <= 3 and self.are_apart(plain)

    def are_apart(self, sums):
        rows = [dict(one[1]) for one in sums]
        for boxes in itertools.combinations(BOXES, len(rows)):
            if self.measure([[row.get(box, 0) for box in boxes] for row in rows]) != 0:
                return True
        return False

    def measure(self, square):
        if not square:
            return 1
        return sum((-1) ** column * square[0][column] * self.measure([row[:column] + row[column + 1:]
                                                                      for row in square[1:]])
                   for column in range(len(square)))

    def test_near(self):
        told = solved(["x"], [((-1, (("x", 1),)), 12, ("one",)), ((-3, (("x", 1),)), 7, ("other",))])
        self.assertEqual(near(told[1], (1, {"x": 1000}), {"x": (0, 2000)}), {"x": 997})
        for aim, ends, book in ((0, (0, 90), 73), (90, (0, 90), 73), (30, (0, 90), 73), (31, (-99, 90), -11 + 84),
                                (30, (-99, 90), -11), (61, (2, 4), -11)):
            told = solved(["x"], [((-1, (("x", 1),)), 12, ("one",)), ((-3, (("x", 1),)), 7, ("other",))])
            self.assertEqual(near(told[1], (1, {"x": aim}), {"x": ends}), {"x": book}, (aim, ends))

    def test_long_stretches_bear_what_is_left(self):
        wide = 10 ** 30
        for ends in ({"x": (0, 1), "y": (0, wide)}, {"y": (0, 1), "x": (0, wide)}, {"x": (5, 6), "y": (-wide, wide)},
                     {"x": (-wide, wide), "y": (-6, -5)}, {"x": (-wide, 0), "y": (1, 1)}, {"x": (1, 1), "y": (-wide, 0)}):
            told = solved(["x", "y"], [((-5, (("x", 1), ("y", 1))), 12, ("one",))])
            book = near(told[1], (1, {box: pair[0] for box, pair in ends.items()}), ends)
            self.assertTrue(all(ends[box][0] <= book[box] <= ends[box][1] for box in ends), book)


    def test_strides(self):
        for start in (-9, 0, 4):
            for stride in (-7, -1, 1, 3):
                for many in (1, 2, 5):
                    for aim in range(-30, 31, 4):
                        places = [start + stride * often for often in range(-200, 200)]
                        there = start + stride * strides(start, stride, many, aim, (-9 ** 9, 9 ** 9))
                        self.assertEqual(abs(many * there - aim), min(abs(many * place - aim) for place in places))
                        low = -(-aim // many)
                        there = start + stride * strides(start, stride, many, aim, (low, 9 ** 9))
                        self.assertTrue(low <= there < low + 7)
                        high = aim // many
                        there = start + stride * strides(start, stride, many, aim, (-9 ** 9, high))
                        self.assertTrue(high - 7 < there <= high)


if __name__ == "__main__":
    unittest.main()
