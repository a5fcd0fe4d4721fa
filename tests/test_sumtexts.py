import unittest

from calm.errors import NoText
from calm.sums import sum_of
from calm.sumtexts import read_sum, show_sum
from tests.samples import some_sum, source_of, strewn, tight

WRITTEN = (
    ((-2, (("x", -3), ("y", 1))), "-3 * x + y - 2"),
    ((-1, (("x", 1),)), "x - 1"),
    ((-7, ()), "-7"),
    ((0, ()), "0"),
    ((7, ()), "7"),
    ((0, (("x", 1),)), "x"),
    ((0, (("x", -1),)), "-x"),
    ((0, (("x", 2),)), "2 * x"),
    ((0, (("x", -2),)), "-2 * x"),
    ((5, (("x", -1), ("y", -1), ("z", -4))), "-x - y - 4 * z + 5"),
    ((0, (("a", 1), ("ab", 3), ("b", -1))), "a + 3 * ab - b"),
    ((999999999, (("orx", -999999999),)), "-999999999 * orx + 999999999"),
)

READ = (
    ("1 + x", (1, (("x", 1),))),
    ("y + x - y", (0, (("x", 1),))),
    ("2 * b + a + 3 * b - 4 + 1", (-3, (("a", 1), ("b", 5)))),
    ("0 * x", (0, ())),
    ("0 * x + y", (0, (("y", 1),))),
    ("-0 * x - 0", (0, ())),
    ("1 * x", (0, (("x", 1),))),
    ("-1 * x", (0, (("x", -1),))),
    ("-0", (0, ())),
    ("x-1", (-1, (("x", 1),))),
    ("  -   3*x+   y  -2 ", (-2, (("x", -3), ("y", 1)))),
    ("- x", (0, (("x", -1),))),
    ("notx + andy + or2", (0, (("andy", 1), ("notx", 1), ("or2", 1)))),
    ("a2345678", (0, (("a2345678", 1),))),
    ("999999999", (999999999, ())),
    ("-999999999", (-999999999, ())),
    ("999999999 * x", (0, (("x", 999999999),))),
    ("999999999 + 1 - 1", (999999999, ())),
    ("-999999999 - 999999999 + 999999999", (-999999999, ())),
    ("999999999 * x + x - x", (0, (("x", 999999999),))),
    ("999999999 * x + 999999999 * y", (0, (("x", 999999999), ("y", 999999999)))),
)

REFUSED = (
    "", " ", "   ", "+", "-", "*", "+ x", "+1", "x +", "x -", "x + + y", "x - - y", "x + - y", "x - + y",
    "--x", "- - x", "x * 3", "x * y", "3 * 4", "3 *", "* x", "3 * * x", "2 * 3 * x", "3 * -x", "-3 * - x",
    "3 x", "x y", "x 3", "3x", "01", "00", "007 * x", "x + 01", "-01", "00 * x",
    "and", "x + or", "3 * not", "box", "end", "at", "true", "divides",
    "abcdefghi", "3 * abcdefghi", "x1234567890",
    "1000000000", "-1000000000", "1000000000 * x", "0 * x + 1000000000 * y", "x + 10000000000",
    "1000000000 - 1", "1000000000 * x - x", "9" * 1990, "9" * 5000,
    "999999999 + 1", "-999999999 - 1", "999999999 * x + x", "-999999999 * x - x", "500000000 * x + 500000000 * x",
    "x <= 1", "x = 1", "[x]", "[1]", "x,", "x, y", "X", "x_y", "(x)", "x / 2", "x%", "% x", "x\n", "\nx", "x\n+ 1",
    "1\t+ x", "@h", "1.5",
)


class Shown(unittest.TestCase):
    def test_written(self):
        for one, text in WRITTEN:
            self.assertEqual(show_sum(one), text)

    def test_numbers_of_any_size(self):
        self.assertEqual(show_sum((-10 ** 40, (("x", 10 ** 20),))), f"{10 ** 20} * x - {10 ** 40}")


class Read(unittest.TestCase):
    def test_what_is_written_is_read(self):
        for one, text in WRITTEN:
            self.assertEqual(read_sum(text), one)

    def test_read(self):
        for text, one in READ:
            self.assertEqual(read_sum(text), one, text)

    def test_kinds(self):
        one = read_sum("x + 1")
        self.assertIs(type(one), tuple)
        self.assertIs(type(one[1]), tuple)
        self.assertIs(type(one[1][0]), tuple)

    def test_refused(self):
        for text in REFUSED:
            with self.assertRaises(NoText, msg=repr(text)) as taken:
                read_sum(text)
            self.assertEqual(taken.exception.row, 1)

    def test_many_sums_with_and_without_blanks(self):
        rng = source_of(7)
        for _ in range(500):
            one = some_sum(rng)
            text = show_sum(one)
            for form in (text, tight(text), strewn(text, rng)):
                self.assertEqual(read_sum(form), one, form)

    def test_pieces_in_any_order(self):
        rng = source_of(77)
        for _ in range(300):
            pieces = [(rng.choice(("", "a", "ab", "b")), rng.randrange(5), rng.choice((1, -1)))
                      for _ in range(rng.randrange(1, 8))]
            text = ""
            for box, times, sign in pieces:
                ahead = ("-" if sign < 0 else "") if text == "" else (" - " if sign < 0 else " + ")
                text += ahead + str(times) + (" * " + box if box else "")
            number = sum(times * sign for box, times, sign in pieces if box == "")
            told = sum_of(number, [(box, times * sign) for box, times, sign in pieces if box])
            self.assertEqual(read_sum(tight(text)), told, text)

    def test_a_row_full_of_pieces(self):
        self.assertEqual(read_sum("+".join(["x"] * 1000)), (0, (("x", 1000),)))
