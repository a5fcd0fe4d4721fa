import unittest
from unittest import mock

from calm import seeking
from calm.checker import first_lists, laid_in
from calm.drafts import needs_of, numbered
from calm.errors import TooMany
from calm.seeking import cut_within, is_out, sought
from calm.tableau import lay_bound, settle, tableau_of
from tests.papers import has_book, is_right
from tests.samples import some_form, some_stretches, source_of, zero_form

NAMES = ["x", "y", "z", "@h"]


def most(number, *parts):
    return ("most", (number, parts))


def answer(rows, forms):
    told = sought(rows, forms, 1)
    if told[0] == "book":
        return told
    lists = laid_in(first_lists(rows), forms)
    known = lists[0] + [("or", members) for members in lists[1]]
    assert all(form in known for form in told[2]), told
    assert told[2] == needs_of(told[1]), told
    return ("paper", numbered(lists, told[1]))


class Sought(unittest.TestCase):
    def test_seeded(self):
        rng = source_of(37)
        told = {"book": 0, "paper": 0}
        for _ in range(800):
            rows = some_stretches(rng, NAMES)
            boxes = [row[0] for row in rows]
            forms = [some_form(rng, rng.randrange(4), boxes, 5) for _ in range(rng.randrange(5))]
            if rng.random() < 0.4:
                forms.append(zero_form(some_form(rng, 0, boxes, 5)[1]))
            one = answer(rows, forms)
            self.assertTrue(is_right(rows, forms, one), (rows, forms, one))
            self.assertEqual(one[0] == "book", has_book(rows, forms))
            told[one[0]] += 1
        self.assertGreater(min(told.values()), 200)

    def test_short_papers_over_long_stretches(self):
        wide = 10 ** 30
        rows = [("x", -wide, wide), ("y", -wide, wide)]
        either = ("or", (most(0, ("x", 1)), most(7, ("y", -1))))
        forms = [either, most(1, ("x", 1), ("y", -1)), most(0, ("x", -1), ("y", 1))]
        told = answer(rows, forms)
        self.assertTrue(is_right(rows, forms, told))
        # The or isn't needed.
        self.assertEqual(told[1][0], "sum")
        forms = [either, most(1, ("x", -1)), most(-6, ("y", 1))]
        self.assertEqual(answer(rows, forms)[1][0], "or")
        forms = [zero_form((1, (("x", 6), ("y", 9))))]
        self.assertEqual(answer(rows, forms)[1][:2], ("rest", 3))

    def test_books_over_long_stretches(self):
        wide = 10 ** 30
        rows = [("x", 0, wide), ("y", 0, wide)]
        rest = ("rest", (-7, (("x", 1),)), 12)
        for forms in (
            [rest], [rest, ("rest", (-6, (("x", 1), ("y", 1))), 11)], [rest, zero_form((3, (("x", 2), ("y", -1))))],
            [rest, ("or", (("rest", (0, (("x", 1),)), 2), most(-1, ("y", -1)))), most(wide // 2, ("y", -1))],
        ):
            told = answer(rows, forms)
            self.assertEqual(told[0], "book")
            self.assertTrue(is_right(rows, forms, told), told)

    def test_few_looks(self):
        # Ors that don't matter, or of which one member is left, and ends that only sums tell, cost next to nothing.
        wide = 10 ** 30
        rows = [("b%d" % number, 0, 9) for number in range(8)] + [("x", -wide, wide), ("y", -wide, wide)]
        loose = [("or", (most(1, ("b%d" % number, -1)), most(-8, ("b%d" % number, 1)))) for number in range(8)]
        unlike = [("or", (most(1, ("b%d" % number, 1), ("b%d" % (number + 1), -1)), most(20, ("b%d" % number, -1))))
                  for number in range(7)]
        for looks, forms in (
            (40, loose + unlike + [zero_form((1, (("x", 2), ("y", -2))))]),
            (40, unlike + [most(-6, ("b7", 1))]),
            (40, loose + unlike),
            (20, [most(-7, ("x", 2)), most(3, ("x", -1)), ("rest", (0, (("x", 1),)), 7)]),
            (20, [most(1, ("x", -2), ("y", 1)), most(-9, ("x", 2)), most(0, ("y", -1)), ("rest", (0, (("x", 1),)), 5)]),
            (40, [("rest", (-2, (("x", 1), ("y", 1))), 4), most(0, ("y", 1)), most(1, ("x", 1), ("y", -1)), ("or", (
                ("or", tuple(("rest", (number, (("x", 1), ("y", 1))), 4) for number in (-3, -4, -5))),
                most(1, ("y", -1))))]),
            (20, [most(1, ("x", -1), ("y", 1)), most(-90, ("x", 1), ("y", 1)), most(85, ("y", -2)),
                  ("rest", (-46, (("x", 1),)), 12)]),
        ):
            with mock.patch.object(seeking, "MOST_LOOKS", looks):
                told = answer(rows, forms)
            self.assertTrue(is_right(rows, forms, told), forms)

    def test_members_that_are_out(self):
        tableau = tableau_of([("x", 0, 4), ("y", 3, 3)])
        lay_bound(tableau, most(-5, ("x", 1), ("y", 1)))
        ends = {"x": (0, 4), "y": (3, 3)}
        out, left = most(5, ("x", -1)), most(4, ("x", -1))
        for form, told in (
            (out, True), (left, False), (most(6, ("x", -1), ("y", -1)), True), (most(5, ("x", -1), ("y", -1)), False),
            (most(11, ("x", -2), ("y", -1)), False), (most(12, ("x", -2), ("y", -1)), True),
            (("rest", (0, (("y", 1),)), 2), True), (("rest", (0, (("y", 1),)), 3), False),
            (("rest", (1, (("x", 2),)), 4), True), (("rest", (2, (("x", 2),)), 4), False),
            (("and", (left, out)), True), (("and", (left, left)), False), (("and", ()), False),
            (("or", (left, out)), False), (("or", (out, out)), True), (("or", ()), True),
        ):
            self.assertIs(is_out(tableau, ends, form), told, form)

    def test_cuts_of_long_stretches(self):
        wide = 10 ** 30
        for atoms, number in (
            ([], 0), ([most(-9, ("x", 2))], 4), ([most(9, ("x", -2))], 4), ([most(-9, ("x", 1), ("y", 1))], 14),
            ([most(9, ("x", -1), ("y", 1))], -1 + 4), ([most(0, ("x", 1), ("y", -1))], 5),
        ):
            tableau = tableau_of([("x", -wide, wide), ("y", -5, 5)])
            for atom in atoms:
                self.assertIsNone(lay_bound(tableau, atom))
            self.assertIsNone(settle(tableau))
            self.assertEqual(cut_within(tableau, "x", (-wide, wide)), number, atoms)
        tableau = tableau_of([("x", 3, 8)])
        self.assertEqual(cut_within(tableau, "x", (3, 8)), 5)

    def test_it_is_refused_after_so_many_looks(self):
        rows = [("x", 0, 9), ("y", 0, 9)]
        forms = [most(1, ("x", -3), ("y", 3)), most(-2, ("x", 3), ("y", -3))]
        self.assertEqual(answer(rows, forms)[0], "paper")
        with mock.patch.object(seeking, "MOST_LOOKS", 3), self.assertRaises(TooMany) as caught:
            sought(rows, forms, 77)
        self.assertEqual(caught.exception.most, 77)
        with mock.patch.object(seeking, "MOST_WORK", 10), self.assertRaises(TooMany):
            sought(rows, forms, 77)
        with mock.patch.object(seeking, "MOST_DEEP", 3), self.assertRaises(TooMany):
            sought(rows, forms, 77)

    def test_very_many_rests_count_for_more(self):
        rows = [("x", 0, 9), ("y", 0, 9)]
        for many, refused in ((1, False), (59, False), (60, True), (30000, True)):
            forms = [("rest", (12 * number, (("x", 12), ("y", 12))), 12) for number in range(many)]
            with mock.patch.object(seeking, "MOST_LOOKS", 3):
                if refused:
                    with self.assertRaises(TooMany):
                        sought(rows, forms, 1)
                else:
                    self.assertEqual(answer(rows, forms)[0], "book")

    def test_a_paper_has_no_longer_numbers(self):
        rows = [("x", -10 ** 30, 10 ** 30), ("y", -10 ** 30, 10 ** 30)]
        forms = [zero_form((1, (("x", 10 ** 9), ("y", 10 ** 9 - 2))))]
        self.assertEqual(answer(rows, forms)[0], "paper")
        with mock.patch.object(seeking, "MOST_BITS", 2):
            self.assertEqual(answer(rows, forms)[1][1], 2)
        forms = [zero_form((1, (("x", 3 * 10 ** 9), ("y", 3 * 10 ** 8))))]
        self.assertEqual(answer(rows, forms)[1][0], "rest")
        self.assertLess(2 ** seeking.MOST_BITS, 10 ** 60)
        with mock.patch.object(seeking, "MOST_BITS", 20), self.assertRaises(TooMany):
            sought(rows, forms, 1)


if __name__ == "__main__":
    unittest.main()
